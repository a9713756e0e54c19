import PyProof.Rows.All
import Wide.All
import OpenK.AllK
import Wide.FinOn
import Lean
import PyProof.EqAt
import PyProof.EqKinds
import PyProof.TupleCall
import KE.KDictSum
import PySem.Challenge.RW_outlivers_k21_whole_greatest_and_cover_m
set_option genSizeOf false
set_option Elab.async false
set_option linter.all false
set_option maxRecDepth 100000
namespace L2
open PySem PySem.Spec PyProof.Rows
noncomputable abbrev Key:=Sum Int Str
noncomputable def qlh:Key→Value→Bool
 | .inl k,v=>Value.isInt k v
 | .inr x,v=>Value.isStrOf x v
noncomputable def keyH (w:World):Key→Int
 | .inl k=>hashInt k
 | .inr x=>hashStr w x
theorem qae:∀ {k:Key} {v:Value},qlh k v=true→(∃ i t,k=Sum.inl i∧v=Value.int i t)∨(∃ x t,k=Sum.inr x∧v=Value.str x t)
 | .inl i,v,h=>by
   obtain ⟨t,e⟩:=Value.isInt_shape (k:=i) (v:=v) h
   exact .inl ⟨i,t,rfl,e⟩
 | .inr x,v,h=>by
   obtain ⟨t,e⟩:=Value.isStrOf_shape (x:=x) (v:=v) h
   exact .inr ⟨x,t,rfl,e⟩
theorem qxb (i:Int) (t:Tok):qlh (.inl i) (.int i t)=true:=by simp [qlh,Value.isInt]
theorem qxc (x:Str) (t:Tok):qlh (.inr x) (.str x t)=true:=by simp [qlh,Value.isStrOf]
theorem q5k (a b:Int):decide ((Sum.inl a:Key)=Sum.inl b)=(a==b):=by
 by_cases e:a=b
 · subst e;simp
 · have h:¬ (Sum.inl a:Key)=Sum.inl b:=fun q=>e (Sum.inl.inj q)
   rw[decide_eq_false h]
   exact(beq_eq_false_iff_ne.mpr e).symm
theorem q5l (a b:Str):decide ((Sum.inr a:Key)=Sum.inr b)=decide (a=b):=by
 by_cases e:a=b
 · subst e;simp
 · have h:¬ (Sum.inr a:Key)=Sum.inr b:=fun q=>e (Sum.inr.inj q)
   rw[decide_eq_false h,decide_eq_false e]
theorem q5m (a:Int) (b:Str):decide ((Sum.inl a:Key)=Sum.inr b)=false:=decide_eq_false (fun q=>nomatch q)
theorem q5n (a:Str) (b:Int):decide ((Sum.inr a:Key)=Sum.inl b)=false:=decide_eq_false (fun q=>nomatch q)
noncomputable def qm (prog:Program) (w:World):PySem.KeyKind prog w Key where
 is:=qlh
 hash:=keyH w
 inj :=fun v a b ha hb=>by
   rcases qae ha with ⟨i,t,rfl,rfl⟩ | ⟨x,t,rfl,rfl⟩
   · rcases qae hb with ⟨j,u,rfl,e⟩ | ⟨y,u,rfl,e⟩
     · injection e with e1 _;rw[e1]
     · exact nomatch e
   · rcases qae hb with ⟨j,u,rfl,e⟩ | ⟨y,u,rfl,e⟩
     · exact nomatch e
     · injection e with e1 _;rw[e1]
 byValue:=fun k v h=>by
   rcases qae h with ⟨i,t,rfl,rfl⟩ | ⟨x,t,rfl,rfl⟩ <;> rfl
 pyHash:=fun hv h=>by
   rcases qae hv with ⟨i,t,rfl,rfl⟩ | ⟨x,t,rfl,rfl⟩
   · exact wpAny_pyHash_int h
   · exact wpAny_pyHash_str h
 eqBool:=fun hu hv h=>by
   rcases qae hu with ⟨i,t,rfl,rfl⟩ | ⟨x,t,rfl,rfl⟩
   · rcases qae hv with ⟨j,u,rfl,rfl⟩ | ⟨y,u,rfl,rfl⟩
     · rw[q5k]at h;exact wpAny_eqBool_int h
     · rw[q5m]at h;exact SeqAt.EqAt.int_str i t y u _ _ _ _ h
   · rcases qae hv with ⟨j,u,rfl,rfl⟩ | ⟨y,u,rfl,rfl⟩
     · rw[q5n]at h;exact SeqAt.EqAt.str_int x t j u _ _ _ _ h
     · rw[q5l]at h;exact wpAny_eqBool_str h
 «strs»:=fun k x t v h=>by
   rcases qae h with ⟨i,u,rfl,e⟩ | ⟨y,u,rfl,e⟩
   · exact nomatch e
   · injection e with e1 _
     subst e1
     cases v <;> rfl
theorem qup (prog:Program) (w:World) (k:Key) (v:Value):(qm prog w).is k v=qlh k v:=rfl
theorem qrv (prog:Program) (w:World) (i:Int) (t:Tok):(qm prog w).is (.inl i) (.int i t)=true:=qxb i t
theorem qrw (prog:Program) (w:World) (x:Str) (t:Tok):(qm prog w).is (.inr x) (.str x t)=true:=qxc x t
inductive V where
 | non | bl (b:Bool) | int (i:Int) | str (x:Str) | byt (b:Array UInt8) | flt (b:UInt64) | ref (a:Addr) | ty (n:String)
 deriving DecidableEq
noncomputable def RelV:V→Value→Prop
 | .non,u=>u=Value.none
 | .bl b,u=>u=Value.bool b
 | .int i,u=>∃ t,u=Value.int i t
 | .str x,u=>∃ t,u=Value.str x t
 | .byt b,u=>∃ t,u=Value.bytes b t
 | .flt b,u=>∃ t,u=Value.float b t
 | .ref a,u=>u=Value.ref a
 | .ty n,u=>u=Value.type n
noncomputable abbrev Vals:List V→List Value→Prop:=Paired RelV
theorem Vals.length {xs:List V} {us:List Value} (r:Vals xs us):xs.length=us.length:=Paired.length r
theorem Vals.get:∀ {xs:List V} {us:List Value} {i:Nat} {x:V},Vals xs us→xs[i]? =some x→∃ u,us[i]? =some u∧RelV x u
 | _,_,_,_,.nil,e=>by simp at e
 | _,_,0,_,.cons r _,e=>by simp at e;subst e;exact⟨_,rfl,r⟩
 | _,_,i+1,x,.cons _ t,e=>by
   obtain ⟨u,h1,h2⟩:=Vals.get (i:=i) (x:=x) t (by simpa using e)
   exact⟨u,by simpa using h1,h2⟩
theorem Vals.set {x:V} {u:Value} (r:RelV x u):∀ {xs:List V} {us:List Value} (i:Nat),Vals xs us→Vals (xs.set i x) (us.set i u)
 | _,_,_,.nil=>.nil
 | _,_,0,.cons _ t=>.cons r t
 | _,_,i+1,.cons q t=>.cons q (Vals.set r i t)
theorem Vals.append:∀ {xs ys:List V} {us ws:List Value},Vals xs us→Vals ys ws→Vals (xs++ys) (us++ws)
 | _,_,_,_,.nil,s=>s
 | _,_,_,_,.cons r t,s=>.cons r (Vals.append t s)
theorem Vals.take:∀ {xs:List V} {us:List Value} (n:Nat),Vals xs us→Vals (xs.take n) (us.take n)
 | _,_,0,_=>.nil
 | _,_,_+1,.nil=>.nil
 | _,_,n+1,.cons r t=>.cons r (Vals.take n t)
theorem Vals.drop:∀ {xs:List V} {us:List Value} (n:Nat),Vals xs us→Vals (xs.drop n) (us.drop n)
 | _,_,0,r=>r
 | _,_,_+1,.nil=>.nil
 | _,_,n+1,.cons _ t=>Vals.drop n t
noncomputable def qli:Option V→Option Value→Prop
 | some v,some u=>RelV v u
 | none,none=>True
 | _,_=>False
noncomputable def KV {κ:Type}:List (κ × V)→List (κ × Value)→Prop:=Paired fun (p:κ × V) (q:κ × Value)=>p.1=q.1∧RelV p.2 q.2
noncomputable def kV:Key→V
 | .inl i=>.int i
 | .inr x=>.str x
inductive HO where
 /-- a list -/
 | lst (xs:List V)
 /-- a tuple (never changes) -/
 | tup (xs:List V)
 /-- a dict whose keys are ints and texts;one whose keys are tuples of ints and texts (the empty one is both) -/
 | dK (kvs:List (Key × V)) | dT (kvs:List (List Key × V))
 /-- a set of ints: its members,its size -/
 | set (S:Int→Bool) (n:Nat)
 /-- an instance of the class at C,its dict at dx,its attributes -/
 | ins (C dx:Addr) (fs:List (Str × V))
 /-- the dict of the instance at x -/
 | own (x:Addr)
 /-- the dict of an exception -/
 | xd (fs:List (Str × V))
 /-- a bound method,f of x -/
 | met (f x:Addr)
 /-- a range object lo,lo+1,.. below hi -/
 | rng (lo hi:Int)
 /-- a thing that is known to the object (the script;a dict while a loop walks it): read,never written while it is so -/
 | frz (o:Obj) (u:HO)
 /-- a code object's table -/
 | tbl (ps:Array Value)
 /-- any other thing,by what is true of its one object (a def of one's own: SetO a S n:=HO.ext fun h=>..) -/
 | ext (φ:Heap→Prop)
noncomputable abbrev Hp:=Addr→Option HO
noncomputable def upd (H:Hp) (a:Addr) (o:HO):Hp:=fun b=>if b=a then some o else H b
theorem qi {H:Hp} {a:Addr} {o:HO}:upd H a o a=some o:=by unfold upd;rw[if_pos rfl]
theorem qc {H:Hp} {a b:Addr} {o:HO} (h:b ≠ a):upd H a o b=H b:=by unfold upd;rw[if_neg h]
theorem q9m {H:Hp} {a b:Addr} {o u:HO} (h:H a=some o) (h':H b=some u) (d:o ≠ u):a ≠ b:=by
 intro e;subst e;rw[h]at h';exact d (Option.some.inj h')
theorem q9 {H:Hp} {a b:Addr} {o:HO} (h:H a=some o) (h':H b=none):a ≠ b:=by
 intro e;subst e;rw[h]at h';cases h'
section
variable (P:Program) (w:World)
noncomputable def qau (H:Hp) (h:Heap) (a:Addr):HO→Prop
 | .lst xs=>xs.length≤sizeLine∧∃ (its:List Value) (n:Nat),Vals xs its∧h.get? a=some { cls:=.type "list",data:=.seq its.toArray n }
 | .tup xs=>xs.length≤sizeLine∧∃ its:List Value,Vals xs its∧IsTup h a its.toArray
 | .dK kvs=>kvs.length≤sizeLine∧(a==sysModules)=false∧∃ vs,KV kvs vs∧h.DictOf (qm P w) a vs
 | .dT kvs=>kvs.length≤sizeLine∧(a==sysModules)=false∧∃ xs:List (List Key × Addr × Value),
     Paired (fun (p:List Key × V) (q:List Key × Addr × Value)=>p.1=q.1∧H q.2.1=some (.tup (p.1.map kV))∧RelV p.2 q.2.2) kvs xs ∧
     ∃ o es ep,h.get? a=some o∧o.ExactDict∧o.data=.dict es ep∧es.toList=xs.map (entryOfKey (tupleKind (qm P w)))∧(xs.map (·.1)).Nodup
 | .set S n=>h.SetOf (intKind P w) a S n
 | .ins C dx fs=>H dx=some (.own a)∧fs.length≤1000∧dx ≠ a∧h.get? a=some (PySem.W.instObj C dx) ∧
     ∃ mA,h.Ns1 dx mA∧(∀ f,qli (fs.lookup f) (mA f))∧PySem.Within mA (fs.map (·.1))
 | .own _=>∃ o,h.get? a=some o
 | .xd fs=>∃ mA,h.Ns1 a mA∧∀ f,qli (fs.lookup f) (mA f)
 | .rng lo hi=>∃ t u v,h.get? a=some { cls:=.type "range",data:=.fields #[.int lo t,.int hi u,.int 1 v] }
 | .frz o u=>h.get? a=some o∧qau H h a u
 | .tbl ps=>h.get? a=some { cls:=.none,data:=.fields ps }
 | .met f x=>h.get? a=some (PySem.W.methodObj (.ref f) (.ref x))
 | .ext φ=>φ h∧(∃ o,h.get? a=some o)∧∀ h1 h2:Heap,φ h1→(∀ o,h1.get? a=some o→h2.get? a=some o)→φ h2
noncomputable def HOk (H:Hp) (h:Heap):Prop:=∀ a o,H a=some o→qau P w H h a o
end
section
variable {P:Program} {w:World} {H H':Hp} {h h':Heap} {a:Addr} {o:HO}
theorem qau.lt (x:qau P w H h a o):a < h.objs.size:=by
 cases o with
 | lst xs=>obtain ⟨_,_,_,_,e⟩:=x;exact Heap.lt_size e
 | tup xs=>obtain ⟨_,_,_,p⟩:=x;exact p.lt
 | dK kvs=>obtain ⟨_,_,_,_,o,_,_,e,_⟩:=x;exact Heap.lt_size e
 | dT kvs=>obtain ⟨_,_,_,_,o,_,_,e,_⟩:=x;exact Heap.lt_size e
 | set S n=>obtain ⟨o,_,_,_,e,_⟩:=x;exact Heap.lt_size e
 | ins C dx fs=>obtain ⟨_,_,_,e,_⟩:=x;exact Heap.lt_size e
 | own y=>obtain ⟨_,e⟩:=x;exact Heap.lt_size e
 | xd fs=>obtain ⟨_,⟨_,_,_,e,_⟩,_⟩:=x;exact Heap.lt_size e
 | rng lo hi=>obtain ⟨_,_,_,e⟩:=x;exact Heap.lt_size e
 | frz ob u=>obtain ⟨e,_⟩:=x;exact Heap.lt_size e
 | tbl ps=>exact Heap.lt_size (show h.get? a=some _ from x)
 | met f y=>exact Heap.lt_size (show h.get? a=some _ from x)
 | ext φ=>obtain ⟨_,⟨_,e⟩,_⟩:=x;exact Heap.lt_size e
theorem Paired.mapP {α β:Type} {F G:α→β→Prop}:∀ {l₁:List α} {l₂:List β},Paired F l₁ l₂→(∀ a b,F a b→G a b)→Paired G l₁ l₂
 | _,_,.nil,_=>.nil
 | _,_,.cons r t,f=>.cons (f _ _ r) (Paired.mapP t f)
theorem qau.stay (x:qau P w H h a o) (k:∀ b u,(b=a∨H b=some (.own a))→h.get? b=some u→h'.get? b=some u)
   (ho:∀ b,H b=some (.own a)→H' b=some (.own a)) (ht:∀ b xs,H b=some (.tup xs)→H' b=some (.tup xs)):qau P w H' h' a o:=by
 induction o with
 | lst xs=>obtain ⟨z,its,n,r,e⟩:=x;exact⟨z,its,n,r,k _ _ (.inl rfl) e⟩
 | tup xs=>obtain ⟨z,its,r,ob,e,c⟩:=x;exact⟨z,its,r,ob,k _ _ (.inl rfl) e,c⟩
 | dK kvs=>obtain ⟨z,y,vs,r,ob,es,ep,e,c⟩:=x;exact⟨z,y,vs,r,ob,es,ep,k _ _ (.inl rfl) e,c⟩
 | dT kvs =>
   obtain ⟨z,y,xs,r,ob,es,ep,e,c⟩:=x
   exact⟨z,y,xs,Paired.mapP r fun p q z=>⟨z.1,ht _ _ z.2.1,z.2.2⟩,ob,es,ep,k _ _ (.inl rfl) e,c⟩
 | set S n=>obtain ⟨ob,es,ep,t,e,c⟩:=x;exact⟨ob,es,ep,t,k _ _ (.inl rfl) e,c⟩
 | ins C dx fs =>
   obtain ⟨d,z,ne,e,mA,⟨od,es,ep,e2,c⟩,r⟩:=x
   exact⟨ho _ d,z,ne,k _ _ (.inl rfl) e,mA,⟨od,es,ep,k _ _ (.inr d) e2,c⟩,r⟩
 | own y=>obtain ⟨ob,e⟩:=x;exact⟨ob,k _ _ (.inl rfl) e⟩
 | xd fs=>obtain ⟨mA,⟨od,es,ep,e,c⟩,r⟩:=x;exact⟨mA,⟨od,es,ep,k _ _ (.inl rfl) e,c⟩,r⟩
 | rng lo hi=>obtain ⟨t,u,v,e⟩:=x;exact⟨t,u,v,k _ _ (.inl rfl) e⟩
 | frz ob u ih=>obtain ⟨e,q⟩:=x;exact⟨k _ _ (.inl rfl) e,ih q⟩
 | tbl ps =>
   have e:h.get? a=some { cls:=.none,data:=.fields ps }:=x
   show h'.get? a=some { cls:=.none,data:=.fields ps }
   exact k a _ (.inl rfl) e
 | met f y =>
   have e:h.get? a=some (PySem.W.methodObj (.ref f) (.ref y)):=x
   show h'.get? a=some (PySem.W.methodObj (.ref f) (.ref y))
   exact k a _ (.inl rfl) e
 | ext φ=>obtain ⟨p,⟨o,e⟩,st⟩:=x;exact⟨st _ _ p fun o q=>k _ _ (.inl rfl) q,⟨o,k _ _ (.inl rfl) e⟩,st⟩
theorem HOk.lt (x:HOk P w H h) (e:H a=some o):a < h.objs.size:=(x a o e).lt
theorem HOk.fresh (x:HOk P w H h) (e:h.objs.size≤a):H a=none:=by
 cases q:H a with
 | none=>rfl
 | some u=>exact absurd (Nat.lt_of_lt_of_le (x.lt q) e) (Nat.lt_irrefl _)
theorem HOk.kept (x:HOk P w H h) (k:∀ b u,h.get? b=some u→h'.get? b=some u):HOk P w H h':=fun a o e =>
 (x a o e).stay (fun b u _ q=>k b u q) (fun _ q=>q) fun _ _ q=>q
theorem HOk.laid (x:HOk P w H h) (k:∀ b u,h.get? b=some u→h'.get? b=some u) (hp:h.objs.size≤a) (new:qau P w (upd H a o) h' a o):HOk P w (upd H a o) h':=fun b u e=>by
 have hn:=x.fresh hp
 by_cases hb:b=a
 · subst hb;rw[qi]at e;cases e;exact new
 · rw[qc hb]at e
   exact(x b u e).stay (fun c v _ q=>k c v q) (fun c q=>by rw[qc (q9 q hn)];exact q) fun c xs q=>by rw[qc (q9 q hn)];exact q
end
noncomputable def Rd (H:Hp) (a:Addr) (u:HO):Prop:=H a=some u∨∃ o,H a=some (.frz o u)
theorem Rd.ok {P:Program} {w:World} {H:Hp} {h:Heap} {a:Addr} {u:HO} (r:Rd H a u) (x:HOk P w H h):qau P w H h a u:=by
 rcases r with r | ⟨o,r⟩
 · exact x a u r
 · obtain ⟨_,q⟩:=x a _ r
   exact q
noncomputable def Mut:Option HO→Prop
 | some (.lst _)=>True
 | some (.dK _)=>True
 | some (.dT _)=>True
 | some (.set _ _)=>True
 | some (.ins _ _ _)=>True
 | some (.ext _)=>True
 | _=>False
section
variable {P:Program} {w:World} {H:Hp} {h h':Heap} {x e:Addr} {o':HO}
theorem HOk.write (ok:HOk P w H h) (mu:Mut (H x)) (he:e=x∨H e=some (.own x)) (k:∀ b u,b ≠ e→h.get? b=some u→h'.get? b=some u) (heo:∃ u,h'.get? e=some u)
   (new:qau P w (upd H x o') h' x o'):HOk P w (upd H x o') h':=fun b u q=>by
 have nown:∀ c y,H c=some (.own y)→c ≠ x:=fun c y r z=>by subst z;rw[r]at mu;exact mu
 have ntup:∀ c xs,H c=some (.tup xs)→c ≠ x:=fun c xs r z=>by subst z;rw[r]at mu;exact mu
 by_cases hb:b=x
 · subst hb;rw[qi]at q;cases q;exact new
 · rw [qc hb]at q
   by_cases hbe:b=e
   · have q':H b=some (.own x):=by
       rcases he with z | z
       · exact absurd (hbe.trans z) hb
       · rw[hbe];exact z
     rw[q]at q';cases q'
     obtain ⟨v,hv⟩:=heo
     exact⟨v,by rw[hbe];exact hv⟩
   · refine(ok b u q).stay (fun c v hc r=>k c v ?_ r) (fun c r=>by rw[qc (nown c b r)];exact r) fun c xs r=>by rw[qc (ntup c xs r)];exact r
     rcases hc with rfl | hc
     · exact hbe
     · rintro rfl
       rcases he with z | z
       · exact nown c b hc z
       · rw[hc]at z;cases z;exact hb rfl
end
structure Un (fs ex:List Addr) (H H':Hp) (h h':Heap):Prop where
 keep:∀ b o,h.get? b=some o→H b=none→b ∉ fs→b ∉ ex→h'.get? b=some o
 slot:∀ b o,h.get? b=some o→H b=none→b ∈ fs→b ∉ ex→∃ sl,h'.get? b=some { o with slots:=sl }
 free:∀ b o,h.get? b=some o→H b=none→b ∉ ex→H' b=none
 there:∀ b o,h.get? b=some o→b ∉ ex→∃ o',h'.get? b=some o'
 tups:∀ b xs,H b=some (.tup xs)→H' b=some (.tup xs)
 frzs:∀ b o u,H b=some (.frz o u)→H' b=some (.frz o u)
 tbls:∀ b ps,H b=some (.tbl ps)→∃ more,H' b=some (.tbl (ps++more))
section
variable {fs fs' ex ex':List Addr} {H H1 H2:Hp} {h h1 h2 h':Heap} {a x e:Addr} {o:HO}
theorem Un.any (u:Un fs ex H H1 h h1) {b:Addr} {ob:Obj} (q:h.get? b=some ob) (n:H b=none) (hx:b ∉ ex):∃ sl,h1.get? b=some { ob with slots:=sl }:=by
 by_cases hb:b ∈ fs
 · exact u.slot b ob q n hb hx
 · exact⟨ob.slots,u.keep b ob q n hb hx⟩
theorem Un.kept (k:∀ b u,h.get? b=some u→h'.get? b=some u):Un fs ex H H h h' :=
 ⟨fun b ob q _ _ _=>k b ob q,fun b ob q _ _ _=>⟨ob.slots,k b ob q⟩,fun _ _ _ n _=>n,fun b ob q _=>⟨ob,k b ob q⟩,fun _ _ q=>q,fun _ _ _ q=>q,fun _ ps q=>⟨#[],by rw[q];simp⟩⟩
theorem Un.refl:Un fs ex H H h h:=Un.kept fun _ _ q=>q
theorem Un.laid (k:∀ b u,h.get? b=some u→h'.get? b=some u) (hp:h.objs.size≤a) (hn:H a=none):Un fs ex H (upd H a o) h h' where
 keep:=fun b u q _ _ _=>k b u q
 slot:=fun b u q _ _ _=>⟨u.slots,k b u q⟩
 free:=fun b u q n _=>by rw[qc (Nat.ne_of_lt (Nat.lt_of_lt_of_le (Heap.lt_size q) hp))];exact n
 there:=fun b u q _=>⟨u,k b u q⟩
 tups:=fun b xs q=>by rw[qc (q9 q hn)];exact q
 frzs:=fun b u xs q=>by rw[qc (q9 q hn)];exact q
 tbls:=fun b ps q=>⟨#[],by rw[qc (q9 q hn),q];simp⟩
theorem Un.write (mu:Mut (H x)) (he:e=x∨H e=some (.own x)) (k:∀ b u,b ≠ e→h.get? b=some u→h'.get? b=some u) (heo:∃ u,h'.get? e=some u):Un fs ex H (upd H x o) h h':=by
 have hx:∀ b,H b=none→b ≠ x:=fun b n z=>by subst z;rw[n]at mu;exact mu
 have hb:∀ b,H b=none→b ≠ e:=fun b n z=>by
   subst z
   rcases he with r | r
   · exact hx b n r
   · rw[n]at r;cases r
 have hm:∀ b u,H b=some u→¬ Mut (some u)→b ≠ x:=fun b u q nm z=>by subst z;rw[q]at mu;exact nm mu
 refine⟨fun b u q n _ _=>k b u (hb b n) q,fun b u q n _ _=>⟨u.slots,k b u (hb b n) q⟩,fun b u q n _=>by rw[qc (hx b n)];exact n,fun b u q _=> ?_,
   fun b xs q=>by rw[qc (hm b _ q fun z=>z)];exact q,fun b u xs q=>by rw[qc (hm b _ q fun z=>z)];exact q,fun b ps q=>⟨#[],by rw[qc (hm b _ q fun z=>z),q];simp⟩⟩
 by_cases hbe:b=e
 · subst hbe;exact heo
 · exact⟨u,k b u hbe q⟩
end
noncomputable def trk (h:Heap) (H:Hp):List Addr:=(List.range h.objs.size).filter fun a=>(H a).isSome
noncomputable def qpz (h:Heap) (H:Hp):Heap:=PySem.W.hideAll h (trk h H)
theorem qxd (h:Heap) (H:Hp):(qpz h H).objs.size=h.objs.size:=PySem.W.hideAll_size _ _
theorem qyy {h:Heap} {H:Hp} {b:Addr} {o:Obj} (e:h.get? b=some o) (n:H b=none):(qpz h H).get? b=some o :=
 PySem.W.hideAll_get _ e fun hm=>by
   have q:(H b).isSome=true:=(List.mem_filter.mp hm).2
   rw[n]at q;simp at q
theorem q18 {h:Heap} {H:Hp} {b:Addr} {o:Obj} (e:(qpz h H).get? b=some o):h.get? b=some o∧H b=none:=by
 have e':h.get? b=some o:=PySem.W.of_hideAll (trk h H) e
 refine⟨e',?_⟩
 cases q:H b with
 | none=>rfl
 | some x =>
   have hm:b ∈ trk h H:=List.mem_filter.mpr ⟨List.mem_range.mpr (Heap.lt_size e'),by simp [q]⟩
   have z:(qpz h H).get? b=none:=PySem.W.hideAll_none (trk h H) hm
   rw[z]at e;cases e
structure Mod (K:PySem.W.Frag) (mg:Str→Option Value) (base:Heap):Prop where
 kin:K.In base
 glob:base.Ns mainGlobals mg
 blt:∃ mb,base.Ns builtinsNs mb∧∀ x:Str,x ≠ "__name__"→mb x=bootBuiltins x
 nolimit:base.NoLimit
set_option genInjectivity false in
structure Cx where
 prog:Program
 w:World
 K:PySem.W.Frag
 mg:Str→Option Value
 base:Heap
 A:Around
 N:List Str
 s₀:Shared
 H₀:Hp
 env:Env
 outer:List Env
 stack:List Env
 ex:List Addr
 fn:Str→Bool
 calm:Bool
 pn:List (Addr × Obj)
 xe:Value→Shared→Prop
noncomputable def frs (l:List Env):List Addr:=l.filterMap (·.frame)
noncomputable abbrev Cx.fs (X:Cx):List Addr:=frs X.outer
noncomputable def Vis (sc:Scope) (x:Str):Prop:=sc.names.lookup x=some .local∨sc.names.lookup x=some .cell∨sc.names.lookup x=some .free
noncomputable def Loc (sc:Scope) (x:Str):Prop:=sc.names.lookup x=some .local∨sc.names.lookup x=some .cell
noncomputable def Look (env:Env) (h:Heap) (m:Str→Option Value) (x:Str) (u:Value):Prop :=
 (env.kindOf x=some .local∧m x=some u)∨((env.kindOf x=some .cell∨env.kindOf x=some .free)∧∃ c,env.cells.lookup x=some c∧h.IsCell c (some u))
set_option genInjectivity false in
structure Cx.Ok (X:Cx):Prop where
 mod:Mod X.K X.mg X.base
 kind:X.env.scope.kind=.function
 glob:X.env.globals=mainGlobals
 blt:X.env.builtins=builtinsNs
 above:X.s₀.heap.objs.size≤X.env.locals
 inj:∀ x y c,X.env.cells.lookup x=some c→X.env.cells.lookup y=some c→x=y
 has:∀ x,(X.env.kindOf x=some .cell∨X.env.kindOf x=some .free)→∃ c,X.env.cells.lookup x=some c
 cab:∀ x c,X.fn x=true→X.env.cells.lookup x=some c→X.s₀.heap.objs.size≤c
 hd:X.calm=true→X.A.handled=none
 frames:X.A.frames=some X.stack
 stk:X.stack=X.outer∨(X.stack=X.env::X.outer∧X.env.frame=some X.env.locals)
 exf:∀ b ∈ X.ex,b ≠ X.env.locals∧∀ x c,X.env.cells.lookup x=some c→c ≠ b
 bs:∀ b o,X.base.get? b=some o→X.s₀.heap.get? b=some o∧X.H₀ b=none
 bsz:X.base.objs.size≤X.s₀.heap.objs.size
 noex:∀ b o,X.base.get? b=some o→b ∉ X.ex
 exfs:∀ b ∈ X.ex,b ∉ X.fs
 funs:X.s₀.heap.FunFrames X.base X.outer
 frf:∀ b ∈ X.fs,X.H₀ b=none
structure Inv (X:Cx) (pins:List (Addr × Obj)) (σ:List (Option V)) (H:Hp) (s:Shared):Prop where
 ok:X.Ok
 os:s.os=X.s₀.os
 bare:AllBare s.gens
 base:Un X.fs X.ex X.H₀ H X.s₀.heap s.heap
 loc:∃ m,s.heap.Ns X.env.locals m∧∀ (i:Nat) (x:Str) (v:V),X.N[i]? =some x→σ[i]? =some (some v)→Vis X.env.scope x→∃ u,RelV v u∧Look X.env s.heap m x u
 cell:∀ x c,X.env.cells.lookup x=some c→∃ v,s.heap.IsCell c v
 free:H X.env.locals=none
 freeC:∀ x c,X.env.cells.lookup x=some c→H c=none
 pin:∀ p ∈ X.pn++pins,s.heap.get? p.1=some p.2∧H p.1=none∧p.1 ≠ X.env.locals∧p.1 ∉ X.fs∧∀ v,p.2.data ≠ .cell v
 hok:HOk X.prog X.w H s.heap
 len:σ.length=X.N.length
section
variable {X:Cx} {pins:List (Addr × Obj)} {σ:List (Option V)} {H H':Hp} {s:Shared} {h':Heap}
theorem Cx.Ok.nofr (ok:X.Ok) {b:Addr} {o:Obj} (e:X.base.get? b=some o):b ∉ X.fs:=fun hb=>by
 have:=(ok.funs.mem hb).1
 rw[e]at this;cases this
theorem Inv.bs (I:Inv X pins σ H s):∀ b o,X.base.get? b=some o→s.heap.get? b=some o∧H b=none:=fun b o e =>
 ⟨I.base.keep b o (I.ok.bs b o e).1 (I.ok.bs b o e).2 (I.ok.nofr e) (I.ok.noex b o e),I.base.free b o (I.ok.bs b o e).1 (I.ok.bs b o e).2 (I.ok.noex b o e)⟩
theorem Inv.bk (I:Inv X pins σ H s):∀ b o,X.base.get? b=some o→s.heap.get? b=some o:=fun b o e=>(I.bs b o e).1
theorem Inv.mod (I:Inv X pins σ H s):Mod X.K X.mg X.base:=I.ok.mod
theorem Inv.kIn (I:Inv X pins σ H s):X.K.In s.heap:=I.ok.mod.kin.keeps I.bk
theorem Inv.lt (I:Inv X pins σ H s):X.env.locals < s.heap.objs.size:=let ⟨_,hn,_⟩:=I.loc;hn.lt
theorem Inv.sz (I:Inv X pins σ H s):X.s₀.heap.objs.size≤s.heap.objs.size:=Nat.le_trans I.ok.above (Nat.le_of_lt I.lt)
theorem Inv.nofs (I:Inv X pins σ H s) {a:Addr} (h:s.heap.objs.size≤a):a ∉ X.fs:=fun hb=>by
 obtain ⟨_,o,ho,_⟩:=I.ok.funs.mem hb
 exact absurd (Nat.lt_of_lt_of_le (Heap.lt_size ho) (Nat.le_trans I.sz h)) (Nat.lt_irrefl _)
theorem Inv.cne (I:Inv X pins σ H s):∀ x c,X.env.cells.lookup x=some c→c ≠ X.env.locals:=fun x c e z=>by
 obtain ⟨v,o,ho,hd⟩:=I.cell x c e
 obtain ⟨m,⟨o',es,ep,ho',hd',_⟩,_⟩:=I.loc
 rw[z,ho']at ho;cases ho;rw[hd']at hd;cases hd
theorem Inv.funs (I:Inv X pins σ H s):s.heap.FunFrames X.base X.outer:=by
 have all:∀ (l:List Env),(∀ b ∈ frs l,b ∈ X.fs)→X.s₀.heap.FunFrames X.base l→s.heap.FunFrames X.base l:=by
   intro l
   induction l with
   | nil=>intro _ _;trivial
   | cons env r ih =>
     intro hs hl
     obtain ⟨hk,⟨L,o,hf,hn,ho,hd⟩,hr⟩:=hl
     have hL:L ∈ X.fs:=hs L (by unfold frs;rw[List.filterMap_cons,hf];exact List.mem_cons_self)
     obtain ⟨sl,e⟩:=I.base.slot L o ho (I.ok.frf L hL) hL fun z=>I.ok.exfs L z hL
     exact⟨hk,⟨L,_,hf,hn,e,hd⟩,ih (fun b hb=>hs b (by unfold frs;rw[List.filterMap_cons,hf];exact List.mem_cons_of_mem _ hb)) hr⟩
 exact all X.outer (fun _ hb=>hb) I.ok.funs
theorem Inv.stack (I:Inv X pins σ H s):s.heap.FunFrames X.base X.stack:=by
 rcases I.ok.stk with e | ⟨e,hf⟩
 · rw[e];exact I.funs
 · rw[e]
   obtain ⟨m,hn,_⟩:=I.loc
   refine .cons (by rw[I.ok.kind];decide) hf hn ?_ I.funs
   exact Heap.get?_none_of_le (Nat.le_trans I.ok.bsz I.ok.above)
theorem Inv.stkSub (I:Inv X pins σ H s):∀ b ∈ frs X.stack,b ∈ X.env.locals::X.fs:=fun b hb=>by
 rcases I.ok.stk with e | ⟨e,hf⟩
 · rw[e]at hb;exact List.mem_cons_of_mem _ hb
 · rw[e]at hb
   unfold frs at hb
   rw[List.filterMap_cons,hf]at hb
   exact hb
theorem Inv.stkFree (I:Inv X pins σ H s):∀ b ∈ frs X.stack,H b=none:=fun b hb=>by
 rcases List.mem_cons.mp (I.stkSub b hb)with e | hb
 · rw[e];exact I.free
 · obtain ⟨_,o,ho,_⟩:=I.ok.funs.mem hb
   exact I.base.free b o ho (I.ok.frf b hb) fun z=>I.ok.exfs b z hb
theorem Inv.step {g':Array GenState} {t':Nat} {d':Drawn} {ch:List Addr} (I:Inv X pins σ H s)
   (hch:∀ b ∈ ch,(b ∈ X.ex∨X.s₀.heap.objs.size≤b)∧b ≠ X.env.locals∧(∀ x c,X.env.cells.lookup x=some c→c ≠ b)∧∀ p ∈ X.pn++pins,p.1 ≠ b)
   (keep:∀ b o,b ≠ X.env.locals→b ∉ X.fs→b ∉ ch→s.heap.get? b=some o→H b=none→h'.get? b=some o)
   (slot:∀ b o,b ≠ X.env.locals→b ∈ X.fs→b ∉ ch→s.heap.get? b=some o→H b=none→∃ sl,h'.get? b=some { o with slots:=sl }) (free:∀ b o,b ∉ ch→s.heap.get? b=some o→H b=none→H' b=none)
   (there:∀ b o,b ∉ ch→s.heap.get? b=some o→∃ o',h'.get? b=some o')
   (tups:∀ b xs,H b=some (.tup xs)→H' b=some (.tup xs)) (frzs:∀ b o u,H b=some (.frz o u)→H' b=some (.frz o u)) (tbls:∀ b ps,H b=some (.tbl ps)→∃ more,H' b=some (.tbl (ps++more)))
   (ns:∀ m,s.heap.Ns X.env.locals m→h'.Ns X.env.locals m) (hok:HOk X.prog X.w H' h') (hg:AllBare g') :
   Inv X pins σ H' { s with heap:=h',gens:=g',drawn:=d',toks:=t' }:=by
 have neL:∀ b o,X.s₀.heap.get? b=some o→b ≠ X.env.locals:=fun b o e=>Nat.ne_of_lt (Nat.lt_of_lt_of_le (Heap.lt_size e) I.ok.above)
 have neC:∀ b o,X.s₀.heap.get? b=some o→b ∉ X.ex→b ∉ ch:=fun b o e hx hb=>by
   rcases (hch b hb).1 with z | z
   · exact hx z
   · exact absurd (Nat.lt_of_lt_of_le (Heap.lt_size e) z) (Nat.lt_irrefl _)
 have cellK:∀ x c,X.env.cells.lookup x=some c→∀ v,s.heap.IsCell c v→h'.IsCell c v:=fun x c e v ⟨o,ho,hd⟩=>by
   have nch:c ∉ ch:=fun z=>(hch c z).2.2.1 x c e rfl
   by_cases hc:c ∈ X.fs
   · obtain ⟨sl,q⟩:=slot c o (I.cne x c e) hc nch ho (I.freeC x c e)
     exact⟨_,q,hd⟩
   · exact⟨o,keep c o (I.cne x c e) hc nch ho (I.freeC x c e),hd⟩
 refine⟨I.ok,I.os,hg,⟨fun b o e n hb hx=> ?_,fun b o e n hb hx=> ?_,fun b o e n hx=> ?_,fun b o e hx=> ?_,fun b xs e=>tups b xs (I.base.tups b xs e),fun b o xs e=>frzs b o xs (I.base.frzs b o xs e),fun b ps e=> ?_⟩,?_,fun x c e=> ?_,?_,fun x c e=> ?_,fun p hp=> ?_,hok,I.len⟩
 · exact keep b o (neL b o e) hb (neC b o e hx) (I.base.keep b o e n hb hx) (I.base.free b o e n hx)
 · obtain ⟨sl,e1⟩:=I.base.slot b o e n hb hx
   obtain ⟨sl',e2⟩:=slot b _ (neL b o e) hb (neC b o e hx) e1 (I.base.free b o e n hx)
   exact⟨sl',e2⟩
 · obtain ⟨o',e1⟩:=I.base.there b o e hx
   exact free b o' (neC b o e hx) e1 (I.base.free b o e n hx)
 · obtain ⟨o',e1⟩:=I.base.there b o e hx
   exact there b o' (neC b o e hx) e1
 · obtain ⟨m1,e1⟩:=I.base.tbls b ps e
   obtain ⟨m2,e2⟩:=tbls b _ e1
   exact⟨m1++m2,by rw[e2,Array.append_assoc]⟩
 · obtain ⟨m,hn,hl⟩:=I.loc
   refine⟨m,ns m hn,fun i x v e1 e2 e3=> ?_⟩
   obtain ⟨u,r,l⟩:=hl i x v e1 e2 e3
   refine⟨u,r,?_⟩
   rcases l with l | ⟨k,c,e,z⟩
   · exact .inl l
   · exact .inr ⟨k,c,e,cellK x c e _ z⟩
 · obtain ⟨v,z⟩:=I.cell x c e
   exact⟨v,cellK x c e v z⟩
 · obtain ⟨m,⟨o,_,_,ho,_⟩,_⟩:=I.loc
   exact free _ o (fun z=>(hch _ z).2.1 rfl) ho I.free
 · obtain ⟨v,o,ho,hd⟩:=I.cell x c e
   exact free c o (fun z=>(hch c z).2.2.1 x c e rfl) ho (I.freeC x c e)
 · obtain ⟨e,n,ne,nf,d⟩:=I.pin p hp
   have nch:p.1 ∉ ch:=fun z=>(hch p.1 z).2.2.2 p hp rfl
   exact⟨keep p.1 p.2 ne nf nch e n,free p.1 p.2 nch e n,ne,nf,d⟩
theorem Inv.un {t':Nat} (I:Inv X pins σ H s) (u:Un X.fs [] H H' s.heap h') (hok:HOk X.prog X.w H' h'):Inv X pins σ H' { s with heap:=h',toks:=t' }:=by
 obtain ⟨m,⟨o,es,ep,ho,r⟩,_⟩:=id I.loc
 obtain ⟨sl,hL⟩:=u.any ho I.free (by simp)
 exact I.step (g':=s.gens) (d':=s.drawn) (ch:=[]) (fun _ z=>nomatch z) (fun b o _ hb _ e n=>u.keep b o e n hb (by simp)) (fun b o _ hb _ e n=>u.slot b o e n hb (by simp)) (fun b o _ e n=>u.free b o e n (by simp)) (fun b o _ e=>u.there b o e (by simp)) u.tups u.frzs u.tbls (fun m' hm=>by
   obtain ⟨o',es',ep',ho',r'⟩:=hm
   rw[ho]at ho';cases ho'
   exact⟨_,es',ep',hL,r'⟩) hok I.bare
theorem Inv.call {g':Array GenState} {t':Nat} {d':Drawn} {ch:List Addr} (I:Inv X pins σ H s) (u:Un (frs X.stack) ch H H' s.heap h') (hok:HOk X.prog X.w H' h') (hg:AllBare g')
   (hch:∀ b ∈ ch,(b ∈ X.ex∨X.s₀.heap.objs.size≤b)∧b ≠ X.env.locals∧(∀ x c,X.env.cells.lookup x=some c→c ≠ b)∧∀ p ∈ X.pn++pins,p.1 ≠ b) :
   Inv X pins σ H' { s with heap:=h',gens:=g',drawn:=d',toks:=t' }:=by
 obtain ⟨m,⟨o,es,ep,ho,r⟩,_⟩:=id I.loc
 obtain ⟨sl,hL⟩:=u.any ho I.free fun z=>(hch _ z).2.1 rfl
 exact I.step (ch:=ch) hch (fun b o hL hb hc e n=>u.keep b o e n (fun z=>(List.mem_cons.mp (I.stkSub b z)).elim hL hb) hc) (fun b o _ _ hc e n=>u.any e n hc) (fun b o hc e n=>u.free b o e n hc) (fun b o hc e=>u.there b o e hc) u.tups u.frzs u.tbls (fun m' hm=>by
   obtain ⟨o',es',ep',ho',r'⟩:=hm
   rw[ho]at ho';cases ho'
   exact⟨_,es',ep',hL,r'⟩) hok hg
theorem Inv.turned {t':Nat} {it:Addr} (I:Inv X pins σ H s) (k:∀ b o,b ≠ it→s.heap.get? b=some o→h'.get? b=some o) (hn:H it=none) (hL:it ≠ X.env.locals)
   (h1:it ∈ X.ex∨X.s₀.heap.objs.size≤it) (h2:∀ x c,X.env.cells.lookup x=some c→c ≠ it) (h3:∀ p ∈ X.pn++pins,p.1 ≠ it):Inv X pins σ H { s with heap:=h',toks:=t' }:=by
 have nit:∀ b u,H b=some u→b ≠ it:=fun b u e z=>by rw[z,hn]at e;cases e
 refine I.step (g':=s.gens) (d':=s.drawn) (ch:=[it]) (fun b hb=> ?_) (fun b o _ _ hc e _=>k b o (fun z=>hc (by simp [z])) e) (fun b o _ _ hc e _=>⟨o.slots,k b o (fun z=>hc (by simp [z])) e⟩) (fun _ _ _ _ n=>n)
   (fun b o hc e=>⟨o,k b o (fun z=>hc (by simp [z])) e⟩) (fun _ _ e=>e) (fun _ _ _ e=>e) (fun b ps e=>⟨#[],by rw[e];simp⟩) (fun m hm=> ?_) (fun b u e=> ?_) I.bare
 · have e:b=it:=by simpa using hb
   subst e
   exact⟨h1,hL,h2,h3⟩
 · obtain ⟨o,es,ep,ho,r⟩:=hm
   exact⟨o,es,ep,k _ o (Ne.symm hL) ho,r⟩
 · refine(I.hok b u e).stay (fun c v hc q=>k c v ?_ q) (fun _ q=>q) fun _ _ q=>q
   rcases hc with z | z
   · rw[z];exact nit b u e
   · exact nit c _ z
theorem Inv.tok (I:Inv X pins σ H s) (t:Nat):Inv X pins σ H { s with toks:=t }:=I.un (h':=s.heap) (t':=t) Un.refl I.hok
theorem Inv.kept {t':Nat} (I:Inv X pins σ H s) (k:∀ b u,s.heap.get? b=some u→h'.get? b=some u):Inv X pins σ H { s with heap:=h',toks:=t' }:=I.un (Un.kept k) (I.hok.kept k)
theorem Inv.laid {a:Addr} {o:HO} {t':Nat} (I:Inv X pins σ H s) (k:∀ b u,s.heap.get? b=some u→h'.get? b=some u) (hp:s.heap.objs.size≤a) (new:qau X.prog X.w (upd H a o) h' a o) :
   Inv X pins σ (upd H a o) { s with heap:=h',toks:=t' }:=I.un (Un.laid k hp (I.hok.fresh hp)) (I.hok.laid k hp new)
theorem Inv.write {x e:Addr} {o:HO} {t':Nat} (I:Inv X pins σ H s) (mu:Mut (H x)) (he:e=x∨H e=some (.own x)) (k:∀ b u,b ≠ e→s.heap.get? b=some u→h'.get? b=some u) (heo:∃ u,h'.get? e=some u)
   (new:qau X.prog X.w (upd H x o) h' x o):Inv X pins σ (upd H x o) { s with heap:=h',toks:=t' }:=I.un (Un.write mu he k heo) (I.hok.write mu he k heo new)
theorem Inv.weak {σ':List (Option V)} (I:Inv X pins σ H s) (hl:σ'.length=σ.length) (w:∀ (i:Nat) v,σ'[i]? =some (some v)→σ[i]? =some (some v)):Inv X pins σ' H s :=
 ⟨I.ok,I.os,I.bare,I.base,let ⟨m,hn,hl'⟩:=I.loc;⟨m,hn,fun i x v e1 e2 e3=>hl' i x v e1 (w i v e2) e3⟩,I.cell,I.free,I.freeC,I.pin,I.hok,hl.trans I.len⟩
theorem Inv.pins_of {pins':List (Addr × Obj)} (I:Inv X pins σ H s) (h:∀ p ∈ pins',s.heap.get? p.1=some p.2∧H p.1=none∧p.1 ≠ X.env.locals∧p.1 ∉ X.fs∧∀ v,p.2.data ≠ .cell v):Inv X pins' σ H s :=
 ⟨I.ok,I.os,I.bare,I.base,I.loc,I.cell,I.free,I.freeC,fun p hp=>(List.mem_append.mp hp).elim (fun z=>I.pin p (List.mem_append_left _ z)) (h p),I.hok,I.len⟩
theorem qrx {N:List Str} (hN:N.Nodup) {i j:Nat} {x:Str} (a:N[i]? =some x) (b:N[j]? =some x):i=j:=by
 obtain ⟨h1,e1⟩:=List.getElem?_eq_some_iff.mp a
 obtain ⟨h2,e2⟩:=List.getElem?_eq_some_iff.mp b
 exact(List.getElem_inj hN).mp (e1.trans e2.symm)
theorem qir {M:Model} {A:Around} {E:Value→Shared→Prop} {i:Nat} {x:Str} {v:V} {u:Value} {Q:Unit→Shared→Prop} (I:Inv X pins σ H s) (hN:X.N.Nodup) (hi:X.N[i]? =some x) (hx:Loc X.env.scope x) (r:RelV v u)
   (h:∀ s',Inv X pins (σ.set i (some v)) H s'→(∃ a,Heap.SameBut a s.heap s'.heap∧(a=X.env.locals∨X.env.cells.lookup x=some a))→Q () s') (hf:X.fn x=true∨X.env.scope.names.lookup x=some .local:=by first | exact .inl rfl | exact .inr rfl | assumption):wpAny M A (storeName X.env x u) Q E s:=by
 obtain ⟨m,hn,hl⟩:=id I.loc
 have hcls:(X.env.scope.kind==.class || (X.env.scope.kind==.module && X.env.locals != X.env.globals))=false:=by rw[I.ok.kind];rfl
 have hiσ:i < σ.length:=by rw[I.len];exact(List.getElem?_eq_some_iff.mp hi).1
 have cne:=I.cne
 have tracked:∀ {a:Addr} {h':Heap},(∃ o,s.heap.get? a=some o∧H a=none)→Heap.SameBut a s.heap h'→HOk X.prog X.w H h':=fun {a h'} ha hs b ob e=>by
   obtain ⟨_,_,hfree⟩:=ha
   refine(I.hok b ob e).stay (fun c w' hc q=>(hs.2 c ?_).trans q) (fun _ q=>q) fun _ _ q=>q
   rintro rfl
   rcases hc with rfl | hc
   · rw[hfree]at e;cases e
   · rw[hfree]at hc;cases hc
 rcases hx with hk | hk
 · refine wpAny_storeName_local hk hn (fun h' hn' hs=> ?_) hcls
   obtain ⟨oL,_,_,hoL,_⟩:=id hn
   refine h _ ⟨I.ok,I.os,I.bare,⟨fun b o e n hb hx=> ?_,fun b o e n hb hx=> ?_,I.base.free,fun b o e hx=> ?_,I.base.tups,I.base.frzs,I.base.tbls⟩,⟨_,hn',fun j y v' e1 e2 e3=> ?_⟩,fun y c e=> ?_,I.free,I.freeC,fun p hp=> ?_,tracked ⟨oL,hoL,I.free⟩ hs,by simpa using I.len⟩ ⟨_,hs,.inl rfl⟩
   · exact(hs.2 b (Nat.ne_of_lt (Nat.lt_of_lt_of_le (Heap.lt_size e) I.ok.above))).trans (I.base.keep b o e n hb hx)
   · obtain ⟨sl,e1⟩:=I.base.slot b o e n hb hx
     exact⟨sl,(hs.2 b (Nat.ne_of_lt (Nat.lt_of_lt_of_le (Heap.lt_size e) I.ok.above))).trans e1⟩
   · obtain ⟨o',e1⟩:=I.base.there b o e hx
     exact⟨o',(hs.2 b (Nat.ne_of_lt (Nat.lt_of_lt_of_le (Heap.lt_size e) I.ok.above))).trans e1⟩
   · by_cases hj:j=i
     · subst hj
       rw[hi]at e1;cases e1
       rw[List.getElem?_set_self hiσ]at e2
       cases e2
       exact⟨u,r,.inl ⟨hk,by simp⟩⟩
     · rw[List.getElem?_set_ne (Ne.symm hj)]at e2
       obtain ⟨u',r',q⟩:=hl j y v' e1 e2 e3
       refine⟨u',r',?_⟩
       rcases q with ⟨k,e⟩ | ⟨k,c,e,z⟩
       · refine .inl ⟨k,?_⟩
         have:y ≠ x:=fun e=>hj (qrx hN e1 (e ▸ hi))
         simp [this,e]
       · exact .inr ⟨k,c,e,z.sameBut hs (cne y c e)⟩
   · obtain ⟨w',z⟩:=I.cell y c e
     exact⟨w',z.sameBut hs (cne y c e)⟩
   · obtain ⟨e,n,ne,nf,d⟩:=I.pin p hp
     exact⟨(hs.2 p.1 ne).trans e,n,ne,nf,d⟩
 · have hfn:X.fn x=true:=by
     rcases hf with z | z
     · exact z
     · rw[z]at hk;cases hk
   obtain ⟨c,hc⟩:=I.ok.has x (.inl hk)
   obtain ⟨w',z⟩:=I.cell x c hc
   refine wpAny_storeName_cell I.ok.kind hk hc z (fun h' hc' hs=> ?_)
   obtain ⟨oc,hoc,hocd⟩:=id z
   refine h { s with heap:=h' } ⟨I.ok,I.os,I.bare,⟨fun b o e n hb hx=> ?_,fun b o e n hb hx=> ?_,I.base.free,fun b o e hx=> ?_,I.base.tups,I.base.frzs,I.base.tbls⟩,⟨m,hn.sameBut hs (Ne.symm (cne x c hc)),fun j y v' e1 e2 e3=> ?_⟩,fun y c' e=> ?_,I.free,I.freeC,fun p hp=> ?_,tracked ⟨oc,hoc,I.freeC x c hc⟩ hs,by simpa using I.len⟩ ⟨c,hs,.inr hc⟩
   · exact(hs.2 b (Nat.ne_of_lt (Nat.lt_of_lt_of_le (Heap.lt_size e) (I.ok.cab x c hfn hc)))).trans (I.base.keep b o e n hb hx)
   · obtain ⟨sl,e1⟩:=I.base.slot b o e n hb hx
     exact⟨sl,(hs.2 b (Nat.ne_of_lt (Nat.lt_of_lt_of_le (Heap.lt_size e) (I.ok.cab x c hfn hc)))).trans e1⟩
   · obtain ⟨o',e1⟩:=I.base.there b o e hx
     exact⟨o',(hs.2 b (Nat.ne_of_lt (Nat.lt_of_lt_of_le (Heap.lt_size e) (I.ok.cab x c hfn hc)))).trans e1⟩
   · by_cases hj:j=i
     · subst hj
       rw[hi]at e1;cases e1
       rw[List.getElem?_set_self hiσ]at e2
       cases e2
       exact⟨u,r,.inr ⟨.inl hk,c,hc,hc'⟩⟩
     · rw[List.getElem?_set_ne (Ne.symm hj)]at e2
       obtain ⟨u',r',q⟩:=hl j y v' e1 e2 e3
       refine⟨u',r',?_⟩
       rcases q with q | ⟨k,c',e,z'⟩
       · exact .inl q
       · refine .inr ⟨k,c',e,z'.sameBut hs ?_⟩
         rintro rfl
         exact hj (qrx hN e1 (I.ok.inj _ _ _ e hc ▸ hi))
   · by_cases hcc:c'=c
     · subst hcc;exact⟨_,hc'⟩
     · obtain ⟨w2,z2⟩:=I.cell y c' e
       exact⟨w2,z2.sameBut hs hcc⟩
   · obtain ⟨e,n,ne,nf,d⟩:=I.pin p hp
     refine⟨(hs.2 p.1 ?_).trans e,n,ne,nf,d⟩
     intro q
     rw[q,hoc]at e
     have q':oc=p.2:=Option.some.inj e
     exact d w' (by rw[← q'];exact hocd)
theorem qe8 {M:Model} {A:Around} {E:Value→Shared→Prop} {i:Nat} {x:Str} {v:V} {u:Value} {Q:Unit→Shared→Prop} (I:Inv X pins σ H s) (hN:X.N.Nodup) (hi:X.N[i]? =some x) (hx:Loc X.env.scope x) (r:RelV v u)
   (h:∀ s',Inv X pins (σ.set i (some v)) H s'→Q () s') (hf:X.fn x=true∨X.env.scope.names.lookup x=some .local:=by first | exact .inl rfl | exact .inr rfl | assumption):wpAny M A (storeName X.env x u) Q E s :=
 qir I hN hi hx r (fun s' I' _=>h s' I') hf
theorem Inv.call' {s':Shared} {ch:List Addr} (I:Inv X pins σ H s) (ho:s'.os=s.os) (u:Un (frs X.stack) ch H H' s.heap s'.heap) (hok:HOk X.prog X.w H' s'.heap) (hg:AllBare s'.gens)
   (hch:∀ b ∈ ch,(b ∈ X.ex∨X.s₀.heap.objs.size≤b)∧b ≠ X.env.locals∧(∀ x c,X.env.cells.lookup x=some c→c ≠ b)∧∀ p ∈ X.pn++pins,p.1 ≠ b):Inv X pins σ H' s':=by
 obtain ⟨h',g',d',t',o'⟩:=s'
 have e:o'=s.os:=ho
 subst e
 exact I.call (g':=g') (t':=t') (d':=d') u hok hg hch
end
noncomputable abbrev XK:=Value→Option Addr→Hp→Prop
noncomputable abbrev St:=List (Option V)
noncomputable abbrev VK:=V→Hp→Prop
noncomputable abbrev TE:=St→Hp→VK→Prop
noncomputable abbrev TT:=St→Hp→(Bool→Hp→Prop)→Prop
noncomputable abbrev TA:=St→Hp→(List V→Hp→Prop)→Prop
set_option genInjectivity false in
structure Ends where
 nx:St→Hp→Prop
 rt:VK
 bk:St→Hp→Prop:=fun _ _=>False
 ct:St→Hp→Prop:=fun _ _=>False
noncomputable abbrev TS:=Ends→St→Hp→Prop
noncomputable def EP (X:Cx) (pins:List (Addr × Obj)) (σ:St) (Q:VK) (u:Value) (s':Shared):Prop:=∃ v H',Inv X pins σ H' s'∧RelV v u∧Q v H'
noncomputable def TP (X:Cx) (pins:List (Addr × Obj)) (σ:St) (Q:Bool→Hp→Prop) (b:Bool) (s':Shared):Prop:=∃ H',Inv X pins σ H' s'∧Q b H'
noncomputable def AP (X:Cx) (pins:List (Addr × Obj)) (σ:St) (Q:List V→Hp→Prop) (us:List Value) (s':Shared):Prop:=∃ vs H',Inv X pins σ H' s'∧Vals vs us∧Q vs H'
noncomputable def SP (X:Cx) (pins:List (Addr × Obj)) (D:Ends) (f:Flow) (s':Shared):Prop :=
 match f with
 | .next=>∃ σ' H',Inv X pins σ' H' s'∧D.nx σ' H'
 | .brk=>∃ σ' H',Inv X pins σ' H' s'∧D.bk σ' H'
 | .cont=>∃ σ' H',Inv X pins σ' H' s'∧D.ct σ' H'
 | .ret u=>∃ v σ' H',Inv X pins σ' H' s'∧RelV v u∧D.rt v H'
noncomputable def PE (X:Cx) (e:Expr) (t:TE):Prop :=
 ∀ (pins:List (Addr × Obj)) (s:Shared) (σ:St) (H:Hp) (Q:VK),Inv X pins σ H s→t σ H Q→wpAny (model X.prog X.w) X.A (eval e X.env) (EP X pins σ Q) X.xe s
noncomputable def PT (X:Cx) (e:Expr) (t:TT):Prop :=
 ∀ (pins:List (Addr × Obj)) (s:Shared) (σ:St) (H:Hp) (Q:Bool→Hp→Prop),Inv X pins σ H s→t σ H Q→wpAny (model X.prog X.w) X.A (isTrue e X.env (eval e X.env)) (TP X pins σ Q) X.xe s
noncomputable def PW (X:Cx) (e:Expr) (t:TT):Prop :=
 ∀ (whole:Sem Value) (pins:List (Addr × Obj)) (s:Shared) (σ:St) (H:Hp) (Q:Bool→Hp→Prop),Inv X pins σ H s→t σ H Q→wpAny (model X.prog X.w) X.A (isTrue e X.env whole) (TP X pins σ Q) X.xe s
theorem PW.pt {X:Cx} {e:Expr} {t:TT} (h:PW X e t):PT X e t:=h _
noncomputable def PA (X:Cx) (es:List Expr) (t:TA):Prop :=
 ∀ (pos:Pos) (pins:List (Addr × Obj)) (s:Shared) (σ:St) (H:Hp) (Q:List V→Hp→Prop),Inv X pins σ H s→t σ H Q→wpAny (model X.prog X.w) X.A (spliced (backTo pos (starEach es X.env))) (AP X pins σ Q) X.xe s
noncomputable def PS (X:Cx) (st:Stmt) (t:TS):Prop :=
 ∀ (pins:List (Addr × Obj)) (s:Shared) (σ:St) (H:Hp) (D:Ends),Inv X pins σ H s→t D σ H→wpAny (model X.prog X.w) X.A (exec st X.env) (SP X pins D) X.xe s
noncomputable def PSs (X:Cx) (st:List Stmt) (t:TS):Prop :=
 ∀ (pins:List (Addr × Obj)) (s:Shared) (σ:St) (H:Hp) (D:Ends),Inv X pins σ H s→t D σ H→wpAny (model X.prog X.w) X.A (execs st X.env) (SP X pins D) X.xe s
theorem thn {α:Type} {t:Sem α} {Q Q':α→Shared→Prop} {M:Model} {A:Around} {E:Value→Shared→Prop} {s:Shared} (h:wpAny M A t Q E s) (hQ:∀ a s,Q a s→Q' a s):wpAny M A t Q' E s:=wpAny_mono h hQ fun _ _ x=>x
section
variable {X:Cx}
noncomputable def q5o (i:Nat):TE:=fun σ H Q=>∃ v,σ[i]? =some (some v)∧Q v H
noncomputable def tC (v:V):TE:=fun _ H Q=>Q v H
theorem quq {i:Nat} {x:Str} {pos:Pos} (hN:X.N[i]? =some x) (hv:Vis X.env.scope x) (hd:(x==("__debug__":Str))=false:=by decide) (hcd:(x==("__classdict__":Str))=false:=by decide):PE X (.Name x pos) (q5o i):=by
 intro pins s σ H Q I h
 obtain ⟨v,e,h⟩:=h
 obtain ⟨m,hn,hl⟩:=I.loc
 obtain ⟨u,r,l⟩:=hl i x v hN e hv
 have fin:EP X pins σ Q u s:=⟨v,H,I,r,h⟩
 rcases l with ⟨hk,hm⟩ | ⟨hk,c,hc,hcell⟩
 · exact wpAny_Name (wpAny_loadName_local I.ok.kind hk hn hm fin) hd
 · rcases hk with hk | hk
   · exact wpAny_Name (wpAny_loadName_cell I.ok.kind hk hc hcell fin) hd
   · exact wpAny_Name (wpAny_loadName_free I.ok.kind hk hc hcell fin hcd) hd
theorem qlj {i j pos}:PE X (.Constant (.int i) j pos) (tC (.int i)):=fun _ _ _ H _ I h=>wpAny_Constant_int ⟨.int i,H,I.tok _,⟨_,rfl⟩,h⟩
theorem q9n {b j pos}:PE X (.Constant (.bool b) j pos) (tC (.bl b)):=fun _ _ _ H _ I h=>Constant_bool ⟨.bl b,H,I,rfl,h⟩
theorem q5p {j pos}:PE X (.Constant .none j pos) (tC .non):=fun _ _ _ H _ I h=>Constant_none ⟨.non,H,I,rfl,h⟩
theorem q5q {x j pos}:PE X (.Constant (.str x) j pos) (tC (.str x)):=fun _ _ _ H _ I h=>Calls.Constant_str ⟨.str x,H,I.tok _,⟨_,rfl⟩,h⟩
noncomputable def Gl (X:Cx) (x:Str):Prop:=X.env.kindOf x=some .globalImplicit
theorem qvz {E:Value→Shared→Prop} {pins:List (Addr × Obj)} {s:Shared} {σ:St} {H:Hp} {x:Str} {u:Value} {pos:Pos} {Q:Value→Shared→Prop} (I:Inv X pins σ H s) (hg:Gl X x) (hm:X.mg x=some u) (h:Q u s)
   (hd:(x==("__debug__":Str))=false:=by decide):wpAny (model X.prog X.w) X.A (eval (.Name x pos) X.env) Q E s :=
 Calls.Name_function_global I.ok.kind hg (Calls.loadGlobal_global (by rw[I.ok.glob];exact I.mod.glob.keeps I.bk) hm h) hd
theorem qgh {E:Value→Shared→Prop} {pins:List (Addr × Obj)} {s:Shared} {σ:St} {H:Hp} {x:Str} {u:Value} {pos:Pos} {Q:Value→Shared→Prop} (I:Inv X pins σ H s) (hg:Gl X x) (hm:X.mg x=none) (hv:bootBuiltins x=some u) (h:Q u s)
   (hn:x ≠ "__name__":=by decide) (hd:(x==("__debug__":Str))=false:=by decide):wpAny (model X.prog X.w) X.A (eval (.Name x pos) X.env) Q E s:=by
 obtain ⟨mb,h1,h2⟩:=I.mod.blt
 exact Calls.Name_function_global I.ok.kind hg (Calls.loadGlobal_builtin (by rw[I.ok.glob];exact I.mod.glob.keeps I.bk) hm (by rw[I.ok.blt];exact h1.keeps I.bk) ((h2 x hn).trans hv) h) hd
theorem q19 {x:Str} {v:V} {u:Value} {pos:Pos} (hg:Gl X x) (hm:X.mg x=none) (hv:bootBuiltins x=some u) (r:RelV v u) (hn:x ≠ "__name__":=by decide) (hd:(x==("__debug__":Str))=false:=by decide):PE X (.Name x pos) (tC v) :=
 fun _ _ _ H _ I h=>qgh I hg hm hv ⟨v,H,I,r,h⟩ hn hd
variable {a b:Expr} {ta tb:TE} {pos:Pos}
variable {tA tB':TT} {rest:List Expr}
noncomputable def tAnd (t u:TT):TT:=fun σ H Q=>t σ H fun c H1=>if c=true then u σ H1 Q else Q false H1
noncomputable def tOr (t u:TT):TT:=fun σ H Q=>t σ H fun c H1=>if c=true then Q true H1 else u σ H1 Q
noncomputable def tNot (t:TT):TT:=fun σ H Q=>t σ H fun c H1=>Q (!c) H1
theorem q2a (ha:PT X a tA):PW X (.BoolOp .And [a] pos) tA:=by
 intro wh pins s σ H Q I h
 refine isTrue_and (thn (ha pins s σ H Q I h) fun c s1 e=> ?_)
 cases c with
 | true=>exact isTrue_and_nil e
 | false=>exact e
theorem q5r (ha:PT X a tA):PW X (.BoolOp .Or [a] pos) tA:=by
 intro wh pins s σ H Q I h
 refine isTrue_or (thn (ha pins s σ H Q I h) fun c s1 e=> ?_)
 cases c with
 | false=>exact isTrue_or_nil e
 | true=>exact e
theorem q5s (ha:PT X a tA) (hb:PW X (.BoolOp .And (b::rest) pos) tB'):PW X (.BoolOp .And (a::b::rest) pos) (tAnd tA tB'):=by
 intro wh pins s σ H Q I h
 refine isTrue_and (thn (ha pins s σ H _ I h) fun c s1 ⟨H1,I1,q1⟩=> ?_)
 cases c with
 | true=>exact hb wh pins s1 σ H1 Q I1 q1
 | false=>exact⟨H1,I1,q1⟩
theorem q9o (ha:PT X a tA) (hb:PW X (.BoolOp .Or (b::rest) pos) tB'):PW X (.BoolOp .Or (a::b::rest) pos) (tOr tA tB'):=by
 intro wh pins s σ H Q I h
 refine isTrue_or (thn (ha pins s σ H _ I h) fun c s1 ⟨H1,I1,q1⟩=> ?_)
 cases c with
 | true=>exact⟨H1,I1,q1⟩
 | false=>exact hb wh pins s1 σ H1 Q I1 q1
theorem q5t (ha:PT X a tA):PT X (.UnaryOp .Not a pos) (tNot tA):=by
 intro pins s σ H Q I h
 exact isTrue_not (ha pins s σ H (fun c H1=>Q (!c) H1) I h)
noncomputable def q9p (ta tb:TE):TE:=fun σ H Q=>ta σ H fun x H1=>∃ c,x=.bl c∧if c=true then tb σ H1 Q else Q (.bl false) H1
noncomputable def tOrV (ta tb:TE):TE:=fun σ H Q=>ta σ H fun x H1=>∃ c,x=.bl c∧if c=true then Q (.bl true) H1 else tb σ H1 Q
noncomputable def q9q (ta:TE):TE:=fun σ H Q=>ta σ H fun x H1=>∃ c,x=.bl c∧Q (.bl (!c)) H1
theorem q5u {op} {t:TE} (h:PE X a t):PE X (.BoolOp op [a] pos) t:=fun pins s σ H Q I hw=>BoolOp_one (h pins s σ H Q I hw)
theorem q5v (ha:PE X a ta) (hb:PE X (.BoolOp .And (b::rest) pos) tb):PE X (.BoolOp .And (a::b::rest) pos) (q9p ta tb):=by
 intro pins s σ H Q I h
 refine BoolOp_and (thn (ha pins s σ H _ I h) fun v s1 ⟨x,H1,I1,r1,q1⟩=> ?_)
 obtain ⟨c,rfl,q1⟩:=q1
 cases r1
 refine wpAny_truthy_bool ?_
 cases c with
 | true=>exact hb pins s1 σ H1 Q I1 q1
 | false=>exact⟨.bl false,H1,I1,rfl,q1⟩
theorem q9r (ha:PE X a ta) (hb:PE X (.BoolOp .Or (b::rest) pos) tb):PE X (.BoolOp .Or (a::b::rest) pos) (tOrV ta tb):=by
 intro pins s σ H Q I h
 refine BoolOp_or (thn (ha pins s σ H _ I h) fun v s1 ⟨x,H1,I1,r1,q1⟩=> ?_)
 obtain ⟨c,rfl,q1⟩:=q1
 cases r1
 refine wpAny_truthy_bool ?_
 cases c with
 | false=>exact hb pins s1 σ H1 Q I1 q1
 | true=>exact⟨.bl true,H1,I1,rfl,q1⟩
theorem q5w (ha:PE X a ta):PE X (.UnaryOp .Not a pos) (q9q ta):=by
 intro pins s σ H Q I h
 refine UnaryOp_ (thn (ha pins s σ H _ I h) fun v s1 ⟨x,H1,I1,r1,q1⟩=> ?_)
 obtain ⟨c,rfl,q1⟩:=q1
 cases r1
 exact not_of (wpAny_truthy_bool ⟨.bl (!c),H1,I1,rfl,q1⟩)
noncomputable def tIf (t:TT) (ta tb:TE):TE:=fun σ H Q=>t σ H fun c H1=>if c=true then ta σ H1 Q else tb σ H1 Q
theorem qyz {c:Expr} (hc:PT X c tA) (ha:PE X a ta) (hb:PE X b tb):PE X (.IfExp c a b pos) (tIf tA ta tb):=by
 intro pins s σ H Q I h
 refine wpAny_IfExp (thn (hc pins s σ H _ I h) fun d s1 ⟨H1,I1,q1⟩=> ?_)
 cases d with
 | true=>exact ha pins s1 σ H1 Q I1 q1
 | false=>exact hb pins s1 σ H1 Q I1 q1
end
noncomputable def SqL (K:PySem.W.Frag) (H:Hp) (a:Addr) (xs:List V):Prop :=
 Rd H a (.lst xs) ∨
   ∃ (o:Obj) (its:Array Value) (n:Nat),K.lookup a=some o∧o.cls=.type "list"∧o.dict=none∧o.data=.seq its n∧its.size≤sizeLine∧Vals xs its.toList
noncomputable def SqT (K:PySem.W.Frag) (H:Hp) (a:Addr) (xs:List V):Prop :=
 Rd H a (.tup xs) ∨
   ∃ (o:Obj) (its:Array Value) (n:Nat),K.lookup a=some o∧o.cls=.type "tuple"∧o.data=.seq its n∧its.size≤sizeLine∧Vals xs its.toList
noncomputable def absV:Value→Option V
 | .none=>some .non
 | .bool b=>some (.bl b)
 | .int i _=>some (.int i)
 | .str x _=>some (.str x)
 | .bytes b _=>some (.byt b)
 | .float b _=>some (.flt b)
 | .ref a=>some (.ref a)
 | .type n=>some (.ty n)
 | _=>none
theorem RelV.abs {x:V} {u:Value} (r:RelV x u):absV u=some x:=by
 cases x with
 | non=>cases r;rfl
 | bl _=>cases r;rfl
 | int _=>obtain ⟨t,rfl⟩:=r;rfl
 | str _=>obtain ⟨t,rfl⟩:=r;rfl
 | byt _=>obtain ⟨t,rfl⟩:=r;rfl
 | flt _=>obtain ⟨t,rfl⟩:=r;rfl
 | ref _=>cases r;rfl
 | ty _=>cases r;rfl
theorem RelV.inj {x y:V} {u:Value} (r:RelV x u) (q:RelV y u):x=y:=Option.some.inj (r.abs.symm.trans q.abs)
theorem Vals.inj:∀ {xs ys:List V} {us:List Value},Vals xs us→Vals ys us→xs=ys
 | _,_,_,.nil,.nil=>rfl
 | _,_,_,.cons r t,.cons r' t'=>by rw[r.inj r',Vals.inj t t']
section
variable {X:Cx} {pins:List (Addr × Obj)} {σ:St} {H:Hp} {s:Shared} {a:Addr} {xs ys:List V}
theorem SqL.of {K:PySem.W.Frag} (h:H a=some (.lst xs)):SqL K H a xs:=.inl (.inl h)
theorem SqT.of {K:PySem.W.Frag} (h:H a=some (.tup xs)):SqT K H a xs:=.inl (.inl h)
theorem Inv.list (I:Inv X pins σ H s) (h:SqL X.K H a xs):∃ its:List Value,Vals xs its∧PlainL s.heap a its.toArray∧xs.length≤sizeLine:=by
 rcases h with h | ⟨o,its,n,hk,hc,hd,hs,hz,r⟩
 · obtain ⟨z,its,n,r,e⟩:=h.ok I.hok
   exact⟨its,r,⟨_,n,e,rfl,rfl,rfl⟩,z⟩
 · refine⟨its.toList,r,⟨o,n,I.kIn a o hk,hc,hd,by simpa using hs⟩,?_⟩
   have e:=r.length
   simp only [Array.length_toList]at e
   omega
theorem Inv.tuple (I:Inv X pins σ H s) (h:SqT X.K H a xs):∃ its:List Value,Vals xs its∧IsTup s.heap a its.toArray∧xs.length≤sizeLine:=by
 rcases h with h | ⟨o,its,n,hk,hc,hs,hz,r⟩
 · obtain ⟨z,its,r,p⟩:=h.ok I.hok
   exact⟨its,r,p,z⟩
 · refine⟨its.toList,r,⟨o,I.kIn a o hk,hc,n,by simpa using hs⟩,?_⟩
   have e:=r.length
   simp only [Array.length_toList]at e
   omega
theorem Inv.list_inj (I:Inv X pins σ H s) (h:SqL X.K H a xs) (h':SqL X.K H a ys):xs=ys:=by
 obtain ⟨its,r,⟨o,n,e,_,_,d⟩,_⟩:=I.list h
 obtain ⟨its',r',⟨o',n',e',_,_,d'⟩,_⟩:=I.list h'
 rw[e]at e';cases e'
 rw[d]at d'
 injection d' with d1 _
 have:its=its':=by simpa using congrArg Array.toList d1
 subst this
 exact r.inj r'
theorem Inv.tuple_inj (I:Inv X pins σ H s) (h:SqT X.K H a xs) (h':SqT X.K H a ys):xs=ys:=by
 obtain ⟨its,r,⟨o,e,_,n,d⟩,_⟩:=I.tuple h
 obtain ⟨its',r',⟨o',e',_,n',d'⟩,_⟩:=I.tuple h'
 rw[e]at e';cases e'
 rw[d]at d'
 injection d' with d1 _
 have:its=its':=by simpa using congrArg Array.toList d1
 subst this
 exact r.inj r'
end
noncomputable abbrev Cx.wish (X:Cx) (E:Value→Shared→Prop):Cx:={ X with xe:=E }
noncomputable abbrev Cx.nox (X:Cx):Cx:=X.wish fun _ _=>False
theorem Cx.Ok.wish {X:Cx} (ok:X.Ok) (E:Value→Shared→Prop):(X.wish E).Ok :=
 ⟨ok.mod,ok.kind,ok.glob,ok.blt,ok.above,ok.inj,ok.has,ok.cab,ok.hd,ok.frames,ok.stk,ok.exf,ok.bs,ok.bsz,ok.noex,ok.exfs,ok.funs,ok.frf⟩
theorem Cx.Ok.unwish {X:Cx} {E:Value→Shared→Prop} (ok:(X.wish E).Ok):X.Ok :=
 ⟨ok.mod,ok.kind,ok.glob,ok.blt,ok.above,ok.inj,ok.has,ok.cab,ok.hd,ok.frames,ok.stk,ok.exf,ok.bs,ok.bsz,ok.noex,ok.exfs,ok.funs,ok.frf⟩
section
variable {X:Cx} {pins:List (Addr × Obj)} {σ:St} {H:Hp} {s:Shared} {E:Value→Shared→Prop}
theorem Inv.wish (I:Inv X pins σ H s) (E:Value→Shared→Prop):Inv (X.wish E) pins σ H s:=⟨I.ok.wish E,I.os,I.bare,I.base,I.loc,I.cell,I.free,I.freeC,I.pin,I.hok,I.len⟩
theorem Inv.unwish (I:Inv (X.wish E) pins σ H s):Inv X pins σ H s:=⟨I.ok.unwish,I.os,I.bare,I.base,I.loc,I.cell,I.free,I.freeC,I.pin,I.hok,I.len⟩
theorem SP.unwish {D:Ends} {f:Flow} {s':Shared} (h:SP (X.wish E) pins D f s'):SP X pins D f s':=by
 cases f with
 | next=>obtain ⟨σ',H',I,q⟩:=h;exact⟨σ',H',I.unwish,q⟩
 | brk=>obtain ⟨σ',H',I,q⟩:=h;exact⟨σ',H',I.unwish,q⟩
 | cont=>obtain ⟨σ',H',I,q⟩:=h;exact⟨σ',H',I.unwish,q⟩
 | ret u=>obtain ⟨v,σ',H',I,r,q⟩:=h;exact⟨v,σ',H',I.unwish,r,q⟩
theorem PSs.nox {st:List Stmt} {t:TS} (h:PSs X.nox st t):PSs X st t:=fun pins s σ H D I hw =>
 wpAny_mono (h pins s σ H D (I.wish _) hw) (fun _ _ q=>q.unwish) fun _ _ z=>False.elim z
end
section
variable {X:Cx} {st:Stmt} {rest:List Stmt} {t u:TS} {e:Expr} {te:TE} {pos:Pos}
noncomputable def q4y:TS:=fun D σ H=>D.nx σ H
noncomputable def tSeq (t u:TS):TS:=fun D σ H=>t { D with nx:=u D } σ H
theorem q2b:PSs X [] q4y:=fun _ _ σ H _ I h=>wpAny_execs_nil ⟨σ,H,I,h⟩
theorem qry (h1:PS X st t) (h2:PSs X rest u):PSs X (st::rest) (tSeq t u):=by
 intro pins s σ H D I h
 refine wpAny_execs_cons (thn (h1 pins s σ H { D with nx:=u D } I h) fun f s1 q=> ?_)
 cases f with
 | next =>
   obtain ⟨σ',H',I',q⟩:=q
   exact h2 pins s1 σ' H' D I' q
 | ret v=>exact q
 | brk=>exact q
 | cont=>exact q
theorem q2c (h1:PS X st t):PSs X [st] t:=by
 intro pins s σ H D I h
 refine wpAny_execs_cons (thn (h1 pins s σ H D I h) fun f s1 q=> ?_)
 cases f with
 | next=>exact wpAny_execs_nil q
 | ret v=>exact q
 | brk=>exact q
 | cont=>exact q
noncomputable def q5x:TS:=fun D σ H=>D.bk σ H
noncomputable def q9s:TS:=fun D σ H=>D.ct σ H
theorem q2d:PS X (.Pass pos) q4y:=fun _ _ σ H _ I h=>wpAny_Pass ⟨σ,H,I,h⟩
theorem qy0:PS X (.Break pos) q5x:=fun _ _ σ H _ I h=>wpAny_Break ⟨σ,H,I,h⟩
theorem qrz:PS X (.Continue pos) q9s:=fun _ _ σ H _ I h=>wpAny_Continue ⟨σ,H,I,h⟩
theorem Inv.quiet {pins:List (Addr × Obj)} {σ:St} {H:Hp} {s:Shared} (I:Inv X pins σ H s):interactive X.env=false:=by simp [interactive,I.ok.kind]
noncomputable def q9t (te:TE):TS:=fun D σ H=>te σ H fun _ H1=>D.nx σ H1
theorem q2e (he:PE X e te) (hs:swapsWith e none pos.line X.env=pure false:=by rfl):PS X (.Expr e pos) (q9t te):=by
 intro pins s σ H D I h
 exact wpAny_Expr_any (thn (he pins s σ H _ I h) fun v s1 ⟨x,H1,I1,r1,q1⟩=>⟨σ,H1,I1,q1⟩) I.quiet hs
noncomputable def tRet (te:TE):TS:=fun D σ H=>te σ H D.rt
theorem qy1 (he:PE X e te):PS X (.Return (some e) pos) (tRet te):=by
 intro pins s σ H D I h
 exact wpAny_Return_some (thn (he pins s σ H _ I h) fun v s1 ⟨x,H1,I1,r1,q1⟩=>⟨x,σ,H1,I1,r1,q1⟩)
noncomputable def q9u:TS:=fun D _ H=>D.rt .non H
theorem q2f:PS X (.Return none pos) q9u:=fun _ _ σ H _ I h=>wpAny_Return_none ⟨.non,σ,H,I,rfl,h⟩
noncomputable def tIfS (c:TT) (t u:TS):TS:=fun D σ H=>c σ H fun b H1=>if b=true then t D σ H1 else u D σ H1
theorem q9v {c:Expr} {a b:List Stmt} {tc:TT} (hc:PT X c tc) (ha:PSs X a t) (hb:PSs X b u):PS X (.If c a b pos) (tIfS tc t u):=by
 intro pins s σ H D I h
 refine wpAny_If (thn (hc pins s σ H _ I h) fun d s1 ⟨H1,I1,q1⟩=> ?_)
 cases d with
 | true=>exact ha pins s1 σ H1 D I1 q1
 | false=>exact hb pins s1 σ H1 D I1 q1
end
noncomputable abbrev TG:=V→St→Hp→(St→Hp→Prop)→Prop
noncomputable abbrev TGs:=List V→St→Hp→(St→Hp→Prop)→Prop
noncomputable def PG (X:Cx) (target:Expr) (t:TG):Prop :=
 ∀ (pins:List (Addr × Obj)) (s:Shared) (σ:St) (H:Hp) (v:V) (u:Value) (Q:St→Hp→Prop),Inv X pins σ H s→RelV v u→t v σ H Q →
   wpAny (model X.prog X.w) X.A (assign target X.env u) (fun _ s'=>∃ σ' H',Inv X pins σ' H' s'∧Q σ' H') X.xe s
noncomputable def PGs (X:Cx) (ts:List Expr) (t:TGs):Prop :=
 ∀ (pins:List (Addr × Obj)) (s:Shared) (σ:St) (H:Hp) (vs:List V) (us:List Value) (Q:St→Hp→Prop),Inv X pins σ H s→Vals vs us→t vs σ H Q →
   wpAny (model X.prog X.w) X.A (assignInOrder ((assignEach ts X.env).map (·.2)) us) (fun _ s'=>∃ σ' H',Inv X pins σ' H' s'∧Q σ' H') X.xe s
noncomputable abbrev qur:=V→V→V→Hp→(Hp→Prop)→Prop
noncomputable def qnn (X:Cx) (t:qur):Prop :=
 ∀ (pins:List (Addr × Obj)) (s:Shared) (σ:St) (H:Hp) (o i v:V) (ov iv u:Value) (Q:Hp→Prop),Inv X pins σ H s→RelV o ov→RelV i iv→RelV v u→t o i v H Q →
   wpAny (model X.prog X.w) X.A (setItem ov iv u) (fun _ s'=>∃ H',Inv X pins σ H' s'∧Q H') X.xe s
noncomputable abbrev TIp:=V→V→Hp→VK→Prop
noncomputable def PIp (X:Cx) (op:Operator) (t:TIp):Prop :=
 ∀ (pins:List (Addr × Obj)) (s:Shared) (σ:St) (H:Hp) (x y:V) (v u:Value) (Q:VK),Inv X pins σ H s→RelV x v→RelV y u→t x y H Q →
   wpAny (model X.prog X.w) X.A (inplaceOp op v u) (EP X pins σ Q) X.xe s
section
variable {X:Cx} {pos:Pos}
noncomputable def qv0 (i:Nat):TG:=fun v σ H Q=>Q (σ.set i (some v)) H
theorem q2g {i:Nat} {x:Str} (hN:X.N.Nodup) (hi:X.N[i]? =some x) (hx:Loc X.env.scope x) (hf:X.fn x=true∨X.env.scope.names.lookup x=some .local:=by first | exact .inl rfl | exact .inr rfl | assumption):PG X (.Name x pos) (qv0 i):=by
 intro pins s σ H v u Q I r h
 exact wpAny_assign_Name (qe8 I hN hi hx r (fun s' I'=>⟨_,H,I',h⟩) hf)
noncomputable def gNil:TGs:=fun vs σ H Q=>vs=[]∧Q σ H
noncomputable def q9w (t:TG) (u:TGs):TGs:=fun vs σ H Q=>∃ v r,vs=v::r∧t v σ H fun σ' H'=>u r σ' H' Q
theorem q2h:PGs X [] gNil:=by
 intro pins s σ H vs us Q I r h
 obtain ⟨e,h⟩:=h
 subst e
 cases r
 exact assignInOrder_nil ⟨σ,H,I,h⟩
theorem qy2 {e:Expr} {es:List Expr} {t:TG} {u:TGs} (h1:PG X e t) (h2:PGs X es u)
   (hs:(assignEach (e::es) X.env).map (·.2)=assign e X.env::(assignEach es X.env).map (·.2):=by rfl):PGs X (e::es) (q9w t u):=by
 intro pins s σ H vs us Q I r h
 obtain ⟨v,vr,e1,h⟩:=h
 subst e1
 cases r with
 | cons r rr =>
   rw[hs]
   refine assignInOrder_cons (thn (h1 pins s σ H _ _ _ I r h) fun _ s1 ⟨σ1,H1,I1,q1⟩=> ?_)
   exact h2 pins s1 σ1 H1 _ _ Q I1 rr q1
noncomputable def gTup (K:PySem.W.Frag) (n:Nat) (t:TGs):TG:=fun v σ H Q=>∃ a xs,v=.ref a∧SqT K H a xs∧xs.length=n∧t xs σ H Q
theorem q5y {es:List Expr} {k:Nat} {t:TGs} {n:Nat} (hc:X.calm=true) (h:PGs X es t)
   (hn:(assignEach es X.env).length=n:=by rfl) (hst:(assignEach es X.env).findIdx? (·.1)=none:=by rfl):PG X (.Tuple es k pos) (gTup X.K n t):=by
 intro pins s σ H v u Q I r hw
 obtain ⟨a,xs,e1,hq,hl,hw⟩:=hw
 subst e1
 cases r
 obtain ⟨its,rv,ht,hz⟩:=I.tuple hq
 refine assign_Tuple_tuple (I.ok.hd hc) ht (by simp [hn,← hl,rv.length]) hst fun h' hx=> ?_
 have I1:Inv X pins σ H { s with heap:=h' }:=I.kept (t':=s.toks) fun b o e=>hx b o (Nat.ne_of_lt (Heap.lt_size e)) e
 exact h pins _ σ H xs _ Q I1 (by simpa using rv) hw
noncomputable def gSub (to ti:TE) (t:qur):TG:=fun v σ H Q=>to σ H fun o H1=>ti σ H1 fun i H2=>t o i v H2 fun H3=>Q σ H3
theorem q5z {o i:Expr} {to ti:TE} {t:qur} (ho:PE X o to) (hi:PE X i ti) (hs:qnn X t)
   (ha:∀ v,assign (.Subscript o i pos) X.env v=(do
     let ov ← holding [v] (eval o X.env)
     let iv ← holding [v,ov] (eval i X.env)
     standAt pos
     holding [v,ov,iv] (setItem ov iv v)
     release [v,ov,iv] []):=by intro _;rfl):PG X (.Subscript o i pos) (gSub to ti t):=by
 intro pins s σ H v u Q I r h
 rw[ha]
 refine wpAny_bind (wpAny_holding (thn (ho pins s σ H _ I h) fun ov s1 ⟨x,H1,I1,r1,q1⟩=> ?_))
 refine wpAny_bind (wpAny_holding (thn (hi pins s1 σ H1 _ I1 q1) fun iv s2 ⟨y,H2,I2,r2,q2⟩=> ?_))
 refine wpAny_bind (wpAny_standAt (wpAny_bind (wpAny_holding (thn (hs pins s2 σ H2 x y v ov iv u _ I2 r1 r2 r q2) fun _ s3 ⟨H3,I3,q3⟩=> ?_))))
 exact wpAny_release ⟨σ,H3,I3,q3⟩
noncomputable def q2i (te:TE) (g:TG):TS:=fun D σ H=>te σ H fun x H1=>g x σ H1 D.nx
theorem q50 {tg e:Expr} {te:TE} {g:TG} (he:PE X e te) (hg:PG X tg g) (hs:swapsWithSole [tg] e pos.line X.env=pure false:=by rfl) (hw:swappedStores [tg] e X.env=pure none:=by rfl)
   (h1:(assignEach [tg] X.env).map (·.2)=[assign tg X.env]:=by rfl):PS X (.Assign [tg] e pos) (q2i te g):=by
 intro pins s σ H D I h
 refine wpAny_Assign_stores (thn (he pins s σ H _ I h) fun v s1 ⟨x,H1,I1,r1,q1⟩=> ?_) hs hw
 rw[h1]
 exact thn (hg pins s1 σ H1 x v _ I1 r1 q1) fun _ s2 q=>q
theorem qy3 {i:Nat} {x:Str} {e:Expr} {te:TE} {pos':Pos} (hN:X.N.Nodup) (hi:X.N[i]? =some x) (hx:Loc X.env.scope x) (he:PE X e te) (hs:swapsWith e (some (.Name x pos')) pos.line X.env=pure false:=by rfl) (hf:X.fn x=true∨X.env.scope.names.lookup x=some .local:=by first | exact .inl rfl | exact .inr rfl | assumption) :
   PS X (.Assign [.Name x pos'] e pos) (q2i te (qv0 i)):=by
 intro pins s σ H D I h
 refine wpAny_Assign_Name (thn (he pins s σ H _ I h) fun v s1 ⟨y,H1,I1,r1,q1⟩=> ?_) hs
 exact qe8 I1 hN hi hx r1 (fun s2 I2=>⟨_,H1,I2,q1⟩) hf
noncomputable def tPar (i j:Nat) (ta:TA):TS:=fun D σ H=>ta σ H fun vs H1=>∃ v w,vs=[v,w]∧D.nx ((σ.set i (some v)).set j (some w)) H1
theorem q51 {i j:Nat} {x y:Str} {a b:Expr} {ta:TA} {px py pt:Pos} {kt k2 pt2} (hc:X.calm=true) (hN:X.N.Nodup) (hi:X.N[i]? =some x) (hj:X.N[j]? =some y) (hij:i ≠ j)
   (hx:X.env.scope.names.lookup x=some .local) (hy:X.env.scope.names.lookup y=some .local) (ha:PA X [a,b] ta)
   (hw:swappedStores [.Tuple [.Name x px,.Name y py] kt pt] (.Tuple [a,b] k2 pt2) X.env=pure (some [x,y]))
   (hs:swapsWithSole [.Tuple [.Name x px,.Name y py] kt pt] (.Tuple [a,b] k2 pt2) pos.line X.env=pure false:=by rfl) :
   PS X (.Assign [.Tuple [.Name x px,.Name y py] kt pt] (.Tuple [a,b] k2 pt2) pos) (tPar i j ta):=by
 intro pins s σ H D I h
 rw[exec_Assign_arm]
 refine wpAny_bind (wpAny_standAt ?_)
 rw[hs]
 refine wpAny_bind (wpAny_pure ?_)
 rw[if_neg (by decide)]
 refine wpAny_bind (Tuple_ (thn (ha _ pins s σ H _ I h) fun us s1 ⟨vs,H1,I1,r1,q1⟩=> ?_))
 obtain ⟨v,w,e1,q1⟩:=q1
 subst e1
 obtain ⟨u1,u2,rfl,rv,rw'⟩:∃ u1 u2,us=[u1,u2]∧RelV v u1∧RelV w u2:=by
   cases r1 with
   | cons p q =>
     cases q with
     | cons p' q' =>
       cases q'
       exact⟨_,_,rfl,p,p'⟩
 refine wpAny_newObj_type ?_ (by show 2≤sizeLine;decide)
 have I2:Inv X pins σ H1 { s1 with heap:=s1.heap.push { cls:=.type "tuple",data:=.seq [u1,u2].toArray } }:=I1.kept (t':=s1.toks) fun b o e=>Heap.get?_push_of_some _ e
 rw[hw]
 refine wpAny_bind (wpAny_pure ?_)
 show wpAny (model X.prog X.w) X.A (do rule "assign.swapped-stores";let items ← unpackItems (.ref s1.heap.objs.size) 2 none;assignInOrder [fun v=>bindName X.env y v,fun v=>bindName X.env x v] items.reverse;pure Flow.next) _ _ _
 refine wpAny_bind (wpAny_rule (wpAny_bind (unpackItems_tuple (items:= #[u1,u2]) (I.ok.hd hc) (IsTup.new s1.heap _) fun h' hx'=> ?_)))
 have I3:=I2.kept (h':=h') (t':=s1.toks) fun b o e=>hx' b o (Nat.ne_of_lt (Heap.lt_size e)) e
 show wpAny _ _ (assignInOrder [fun v=>bindName X.env y v,fun v=>bindName X.env x v] [u2,u1] >>= fun _=>pure Flow.next) _ _ _
 refine wpAny_bind (assignInOrder_cons (wpAny_bindName (qe8 I3 hN hj (.inl hy) rw' (fun s2 I4=> ?_) (.inr hy))))
 refine assignInOrder_cons (wpAny_bindName (qe8 I4 hN hi (.inl hx) rv (fun s3 I5=>assignInOrder_nil (wpAny_pure ?_)) (.inr hx)))
 rw[List.set_comm _ _ (Ne.symm hij)]at I5
 exact⟨_,H1,I5,q1⟩
noncomputable def tAug (i:Nat) (te:TE) (ti:TIp):TS:=fun D σ H=>∃ x,σ[i]? =some (some x)∧te σ H fun y H1=>ti x y H1 fun z H2=>D.nx (σ.set i (some z)) H2
theorem q52 {i:Nat} {x:Str} {e:Expr} {te:TE} {op:Operator} {ti:TIp} {pos':Pos} (hN:X.N.Nodup) (hi:X.N[i]? =some x) (hx:Loc X.env.scope x) (he:PE X e te) (ho:PIp X op ti) (hf:X.fn x=true∨X.env.scope.names.lookup x=some .local:=by first | exact .inl rfl | exact .inr rfl | assumption) :
   PS X (.AugAssign (.Name x pos') op e pos) (tAug i te ti):=by
 intro pins s σ H D I h
 obtain ⟨v,e1,h⟩:=h
 obtain ⟨m,hn,hl⟩:=I.loc
 have vis:Vis X.env.scope x:=by rcases hx with k | k;exact .inl k;exact .inr (.inl k)
 obtain ⟨u,r,l⟩:=hl i x v hi e1 vis
 refine wpAny_AugAssign_Name ?_
 have go:wpAny (model X.prog X.w) X.A (eval e X.env) (fun w s₂=>wpAny (model X.prog X.w) X.A (inplaceOp op u w) (fun r s₃=>wpAny (model X.prog X.w) X.A (storeName X.env x r) (fun _=>SP X pins D .next) X.xe s₃) X.xe s₂) X.xe s:=by
   refine thn (he pins s σ H _ I h) fun w s1 ⟨y,H1,I1,r1,q1⟩=> ?_
   refine thn (ho pins s1 σ H1 v y u w _ I1 r r1 q1) fun z s2 ⟨zv,H2,I2,r2,q2⟩=> ?_
   exact qe8 I2 hN hi hx r2 (fun s3 I3=>⟨_,H2,I3,q2⟩) hf
 rcases l with ⟨hk,hm⟩ | ⟨hk,c,hc,hcell⟩
 · exact wpAny_loadName_local I.ok.kind hk hn hm go
 · rcases hk with hk | hk
   · exact wpAny_loadName_cell I.ok.kind hk hc hcell go
   · rcases hx with k | k
     · have:X.env.scope.names.lookup x=some .free:=hk
       rw[k]at this;cases this
     · have:X.env.scope.names.lookup x=some .free:=hk
       rw[k]at this;cases this
noncomputable def q9x (to ti te:TE) (tget:V→V→Hp→VK→Prop) (tip:TIp) (tset:qur):TS:=fun D σ H=>to σ H fun o H1=>ti σ H1 fun i H2=>tget o i H2 fun x H3=>te σ H3 fun y H4=>tip x y H4 fun z H5=>tset o i z H5 fun H6=>D.nx σ H6
noncomputable def qr0 (X:Cx) (t:V→V→Hp→VK→Prop):Prop :=
 ∀ (pins:List (Addr × Obj)) (s:Shared) (σ:St) (H:Hp) (o i:V) (ov iv:Value) (Q:VK),Inv X pins σ H s→RelV o ov→RelV i iv→t o i H Q →
   wpAny (model X.prog X.w) X.A (getItem ov iv) (EP X pins σ Q) X.xe s
theorem q2j {o i e:Expr} {to ti te:TE} {tget:V→V→Hp→VK→Prop} {tip:TIp} {tset:qur} {op:Operator} {tpos:Pos} (ho:PE X o to) (hi:PE X i ti) (hg:qr0 X tget) (he:PE X e te) (hp:PIp X op tip) (hs:qnn X tset)
   (ha:∀ ov iv new,augStore i ov iv new=(do holding [new,ov,iv] (setItem ov iv new);release [new,ov,iv] [];pure .next):=by intros;rfl):PS X (.AugAssign (.Subscript o i tpos) op e pos) (q9x to ti te tget tip tset):=by
 intro pins s σ H D I h
 refine wpAny_AugAssign_SubscriptAny (thn (ho pins s σ H _ I h) fun ov s1 ⟨x1,H1,I1,r1,q1⟩=> ?_) ha
 refine thn (hi pins s1 σ H1 _ I1 q1) fun iv s2 ⟨x2,H2,I2,r2,q2⟩=> ?_
 refine thn (hg pins s2 σ H2 x1 x2 ov iv _ I2 r1 r2 q2) fun old s3 ⟨x3,H3,I3,r3,q3⟩=> ?_
 refine thn (he pins s3 σ H3 _ I3 q3) fun v s4 ⟨x4,H4,I4,r4,q4⟩=> ?_
 refine thn (hp pins s4 σ H4 x3 x4 old v _ I4 r3 r4 q4) fun new s5 ⟨x5,H5,I5,r5,q5⟩=> ?_
 exact thn (hs pins s5 σ H5 x1 x2 x5 ov iv new _ I5 r1 r2 r5 q5) fun _ s6 ⟨H6,I6,q6⟩=>⟨σ,H6,I6,q6⟩
noncomputable def ipI (f:Int→Int→Int):TIp:=fun x y H Q=>∃ i j,x=.int i∧y=.int j∧Q (.int (f i j)) H
theorem q53:PIp X .Add (ipI fun i j=>i+j):=by
 intro pins s σ H x y v u Q I r1 r2 h
 obtain ⟨i,j,e1,e2,q⟩:=h
 subst e1;subst e2
 obtain ⟨t,rfl⟩:=r1
 obtain ⟨t',rfl⟩:=r2
 exact iadd_int ⟨.int _,H,I.tok _,⟨_,rfl⟩,q⟩
theorem q54:PIp X .Sub (ipI fun i j=>i - j):=by
 intro pins s σ H x y v u Q I r1 r2 h
 obtain ⟨i,j,e1,e2,q⟩:=h
 subst e1;subst e2
 obtain ⟨t,rfl⟩:=r1
 obtain ⟨t',rfl⟩:=r2
 exact isub_int ⟨.int _,H,I.tok _,⟨_,rfl⟩,q⟩
end
section
variable {X:Cx} {pos:Pos}
noncomputable def q55 (c:TT) (tb:TS):TS:=fun D σ H=>∃ W:Nat→St→Hp→Prop,(∃ m,W m σ H)∧∀ m σ H,W m σ H →
 c σ H fun b H1=>if b=true then ∃ N:St→Hp→Prop,(∀ σ' H',N σ' H'→∃ m',m' < m∧W m' σ' H')∧tb { D with nx:=N,ct:=N,bk:=D.nx } σ H1 else D.nx σ H1
theorem qy4 {c:Expr} {body:List Stmt} {tc:TT} {tb:TS} (hp:PassesOwn (model X.prog X.w) X.A X.env X.xe) (hc:PT X c tc) (hb:PSs X body tb):PS X (.While c body [] pos) (q55 tc tb):=by
 intro pins s σ H D I h
 obtain ⟨W,⟨m0,w0⟩,turn⟩:=h
 refine wpAny_While (codeAny_whileLoop (fun n s'=>∃ σ' H',Inv X pins σ' H' s'∧W n σ' H') ?_ m0 ⟨σ,H,I,w0⟩)
 rintro n s1 ⟨σ1,H1,I1,w1⟩
 refine wpAny_passesOwn hp (thn (hc pins s1 σ1 H1 _ I1 (turn n σ1 H1 w1)) fun b s2 ⟨H2,I2,q2⟩=> ?_)
 cases b with
 | true =>
   obtain ⟨N,hN,q2⟩:=q2
   rw[if_pos rfl]
   refine wpAny_passesOwn hp (thn (hb pins s2 σ1 H2 _ I2 q2) fun f s3 q3=> ?_)
   cases f with
   | next =>
     obtain ⟨σ3,H3,I3,n3⟩:=q3
     obtain ⟨m',hm,w3⟩:=hN σ3 H3 n3
     exact⟨m',hm,σ3,H3,I3,w3⟩
   | cont =>
     obtain ⟨σ3,H3,I3,n3⟩:=q3
     obtain ⟨m',hm,w3⟩:=hN σ3 H3 n3
     exact⟨m',hm,σ3,H3,I3,w3⟩
   | brk=>exact q3
   | ret v=>exact q3
 | false =>
   rw[if_neg Bool.false_ne_true]
   exact wpAny_execs_nil ⟨σ1,H2,I2,q2⟩
end
set_option genInjectivity false in
structure It where
 go:Nat→Hp→Prop
 yld:Nat→Hp→V→Hp→Prop
 stop:Nat→Hp→Prop
noncomputable def qei (X:Cx) (pins:List (Addr × Obj)) (H:Hp) (b:Addr):Prop :=
 H b=none∧b ≠ X.env.locals∧b ∉ X.fs∧(b ∈ X.ex∨X.s₀.heap.objs.size≤b)∧(∀ x c,X.env.cells.lookup x=some c→c ≠ b)∧∀ p ∈ X.pn++pins,p.1 ≠ b
theorem Inv.fpOk {X:Cx} {pins:List (Addr × Obj)} {σ:St} {H H':Hp} {s:Shared} {b:Addr} (I:Inv X pins σ H s) (hb:s.heap.objs.size≤b) (hn:H' b=none):qei X pins H' b:=by
 refine⟨hn,Nat.ne_of_gt (Nat.lt_of_lt_of_le I.lt hb),I.nofs hb,.inr (Nat.le_trans I.sz hb),fun x c e z=> ?_,fun p hp z=> ?_⟩
 · obtain ⟨v,q⟩:=I.cell x c e
   exact absurd (Nat.lt_of_lt_of_le q.lt (by rw[z];exact hb)) (Nat.lt_irrefl _)
 · exact absurd (Nat.lt_of_lt_of_le (Heap.lt_size (I.pin p hp).1) (by rw[z];exact hb)) (Nat.lt_irrefl _)
structure Turn (P:Program) (w:World) (K:PySem.W.Frag) (tg:Expr) (J:It) (fp:List Addr) (it:Addr) (tn:Nat→Heap→Prop):Prop where
 mem:it ∈ fp
 obj:∀ i h,tn i h→∀ b ∈ fp,∃ o,h.get? b=some o∧∀ v,o.data ≠ .cell v
 keep:∀ i h h',tn i h→(∀ b ∈ fp,∀ o,h.get? b=some o→h'.get? b=some o)→tn i h'
 item:∀ (X:Cx),X.prog=P→X.w=w→X.K=K→X.calm=true→∀ (i:Nat) (pins:List (Addr × Obj)) (s:Shared) (σ:St) (H:Hp) (E:Value→Shared→Prop),Inv X pins σ H s→(∀ b ∈ fp,qei X pins H b)→tn i s.heap→J.go i H →
   wpAny (model P w) X.A (pyNext (.ref it)) (fun r s1=>∃ u,r=some u ∧
     wpAny (model P w) X.A (letOwnedTupleGo tg (.ref it) u) (fun _ s2=>∃ x H',Inv X pins σ H' s2∧RelV x u∧J.yld i H x H'∧tn (i+1) s2.heap∧∀ b ∈ fp,H' b=none) E s1) E s
 done:∀ (X:Cx),X.prog=P→X.w=w→X.K=K→X.calm=true→∀ (i:Nat) (pins:List (Addr × Obj)) (s:Shared) (σ:St) (H:Hp) (E:Value→Shared→Prop),Inv X pins σ H s→(∀ b ∈ fp,qei X pins H b)→tn i s.heap→J.stop i H →
   wpAny (model P w) X.A (pyNext (.ref it)) (fun r s1=>r=none∧Inv X pins σ H s1) E s
 self:∀ (A:Around) (i:Nat) (s:Shared) (Q:Value→Shared→Prop) (E:Value→Shared→Prop),tn i s.heap→Q (.ref it) s→wpAny (model P w) A (pyIter (.ref it)) Q E s
noncomputable abbrev TI:=St→Hp→(It→Hp→Prop)→Prop
noncomputable def PIE (X:Cx) (pins:List (Addr × Obj)) (σ:St) (tg:Expr) (R:It→Hp→Prop) (itv:Value) (s2:Shared):Prop :=
 ∃ (it:Addr) (fp:List Addr) (tn:Nat→Heap→Prop) (J:It) (H':Hp),itv=.ref it∧Inv X pins σ H' s2∧Turn X.prog X.w X.K tg J fp it tn∧tn 0 s2.heap∧(∀ b ∈ fp,qei X pins H' b)∧R J H'
noncomputable def PI (X:Cx) (tg iter:Expr) (wi:TI):Prop :=
 ∀ (pins:List (Addr × Obj)) (s:Shared) (σ:St) (H:Hp) (R:It→Hp→Prop),Inv X pins σ H s→wi σ H R →
   wpAny (model X.prog X.w) X.A (eval iter X.env) (fun v s1=>wpAny (model X.prog X.w) X.A (pyIter v) (PIE X pins σ tg R) X.xe s1) X.xe s
theorem qv1 {M:Model} {A:Around} {E:Value→Shared→Prop} {s:Shared} {tg:Expr} {it:Addr} {u:Value} {o:Obj} {n:String} {vs:Array Value} {Q:Unit→Shared→Prop} (ho:s.heap.get? it=some o) (hc:o.cls=.type n) (hd:o.data=.fields vs)
   (hn:["enumerate","zip","dict_itemiterator","dict_reverseitemiterator","odict_iterator","itertools.zip_longest","itertools.pairwise"].contains n=false) (hQ:Q () s):wpAny M A (letOwnedTupleGo tg (.ref it) u) Q E s:=by
 unfold letOwnedTupleGo
 cases tg <;> first
   | exact wpAny_pure hQ
   | (cases u <;> first
       | exact wpAny_pure hQ
       | (refine wpAny_bind (wpAny_load ho ?_)
          rw[hc,hd]
          show wpAny M A (if (["enumerate","zip","dict_itemiterator","dict_reverseitemiterator","odict_iterator","itertools.zip_longest","itertools.pairwise"].contains n && vs[0]? ==some (rawInt _))=true then _ else _) Q E s
          rw[if_neg (by intro h;rw[hn,Bool.false_and]at h;cases h)]
          exact wpAny_pure hQ))
noncomputable def Itl (K:PySem.W.Frag) (a:Addr):It :=
 ⟨fun i H=>∃ xs x,SqL K H a xs∧xs[i]? =some x,fun i H x H'=>H'=H∧∀ xs,SqL K H a xs→xs[i]? =some x,fun i H=>∃ xs,SqL K H a xs∧xs.length≤i⟩
noncomputable def Itt (K:PySem.W.Frag) (a:Addr):It :=
 ⟨fun i H=>∃ xs x,SqT K H a xs∧xs[i]? =some x,fun i H x H'=>H'=H∧∀ xs,SqT K H a xs→xs[i]? =some x,fun i H=>∃ xs,SqT K H a xs∧xs.length≤i⟩
noncomputable def Itr (lo:Int) (n:Nat):It:=⟨fun i _=>i < n,fun i H x H'=>H'=H∧x=.int (lo+i),fun i _=>n≤i⟩
theorem qxe {P:Program} {w:World} {K:PySem.W.Frag} {tg:Expr} (a it:Addr):Turn P w K tg (Itl K a) [it] it (fun i h=>h.IsListIter it a i) where
 mem:=by simp
 obj:=fun i h st b hb=>by
   have e:b=it:=by simpa using hb
   subst e
   obtain ⟨o,e,c,d⟩:=st
   exact⟨o,e,fun v z=>by rw[d]at z;cases z⟩
 keep:=fun i h h' st k=>st.at fun o e=>k it (by simp) o e
 item:=by
   intro X hP hw hK hc i pins s σ H E I hf st hg
   subst hP hw hK
   obtain ⟨xs,x,hq,hx⟩:=hg
   obtain ⟨its,rv,p,hz⟩:=I.list hq
   obtain ⟨u,hu,ru⟩:=rv.get hx
   obtain ⟨f0,f1,f2,f3,f4,f5⟩:=hf it (by simp)
   refine wpAny_pyNext_list_item st p.isList (x:=u) (by simpa using hu) fun h' st' sb=> ?_
   have I1:Inv X pins σ H { s with heap:=h' }:=I.turned (t':=s.toks) (fun b o hb e=>(sb.2 b hb).trans e) f0 f1 f3 f4 f5
   obtain ⟨o,e,c,d⟩:=id st'
   exact⟨u,rfl,qv1 (s:={ s with heap:=h' }) e c d (by decide) ⟨x,H,I1,ru,⟨rfl,fun ys hy=>by rw[I.list_inj hy hq];exact hx⟩,st',fun b hb=>(hf b hb).1⟩⟩
 done:=by
   intro X hP hw hK hc i pins s σ H E I hf st hg
   subst hP hw hK
   obtain ⟨xs,hq,hx⟩:=hg
   obtain ⟨its,rv,p,hz⟩:=I.list hq
   obtain ⟨f0,f1,f2,f3,f4,f5⟩:=hf it (by simp)
   have hl:=rv.length
   exact wpAny_pyNext_list_end (I.ok.hd hc) st p.isList (by simp;omega) fun h' eb=>⟨rfl,I.turned (t':=s.toks) (fun b o hb e=>eb b o hb e) f0 f1 f3 f4 f5⟩
 self:=fun _ _ _ _ _ st h=>wpAny_pyIter_listiter st h
theorem qus {P:Program} {w:World} {K:PySem.W.Frag} {tg:Expr} (a it:Addr):Turn P w K tg (Itt K a) [it] it (fun i h=>h.IsTupleIter it a i) where
 mem:=by simp
 obj:=fun i h st b hb=>by
   have e:b=it:=by simpa using hb
   subst e
   obtain ⟨o,e,c,d⟩:=st
   exact⟨o,e,fun v z=>by rw[d]at z;cases z⟩
 keep:=fun i h h' st k=>st.at fun o e=>k it (by simp) o e
 item:=by
   intro X hP hw hK hc i pins s σ H E I hf st hg
   subst hP hw hK
   obtain ⟨xs,x,hq,hx⟩:=hg
   obtain ⟨its,rv,p,hz⟩:=I.tuple hq
   obtain ⟨u,hu,ru⟩:=rv.get hx
   obtain ⟨f0,f1,f2,f3,f4,f5⟩:=hf it (by simp)
   refine wpAny_pyNext_tuple_item st (show s.heap.IsTuple a its.toArray from p) (x:=u) (by simpa using hu) fun h' st' sb=> ?_
   have I1:Inv X pins σ H { s with heap:=h' }:=I.turned (t':=s.toks) (fun b o hb e=>(sb.2 b hb).trans e) f0 f1 f3 f4 f5
   obtain ⟨o,e,c,d⟩:=id st'
   exact⟨u,rfl,qv1 (s:={ s with heap:=h' }) e c d (by decide) ⟨x,H,I1,ru,⟨rfl,fun ys hy=>by rw[I.tuple_inj hy hq];exact hx⟩,st',fun b hb=>(hf b hb).1⟩⟩
 done:=by
   intro X hP hw hK hc i pins s σ H E I hf st hg
   subst hP hw hK
   obtain ⟨xs,hq,hx⟩:=hg
   obtain ⟨its,rv,p,hz⟩:=I.tuple hq
   obtain ⟨f0,f1,f2,f3,f4,f5⟩:=hf it (by simp)
   have hl:=rv.length
   exact wpAny_pyNext_tuple_end (I.ok.hd hc) st (show s.heap.IsTuple a its.toArray from p) (by simp;omega) fun h' eb=>⟨rfl,I.turned (t':=s.toks) (fun b o hb e=>eb b o hb e) f0 f1 f3 f4 f5⟩
 self:=fun _ _ _ _ _ st h=>wpAny_pyIter_tupleiter st h
theorem qut {P:Program} {w:World} {K:PySem.W.Frag} {tg:Expr} (it:Addr) (lo:Int) (n:Nat):Turn P w K tg (Itr lo n) [it] it (fun i h=>IsRangeIter h it (lo+(i:Nat) * 1) ((n:Int) - (i:Nat)) 1) where
 mem:=by simp
 obj :=fun i h st b hb=>by
   have e:b=it:=by simpa using hb
   subst e
   exact⟨_,st,fun v z=>by
     have z':Data.fields _=Data.cell v:=z
     cases z'⟩
 keep:=fun i h h' st k=>k it (by simp) _ st
 item:=by
   intro X hP hw hK hc i pins s σ H E I hf st hg
   subst hP hw hK
   obtain ⟨f0,f1,f2,f3,f4,f5⟩:=hf it (by simp)
   have W:=Walks.range (prog:=X.prog) (w:=X.w) (I.ok.hd hc) it lo 1 n
   refine W.item i s _ _ hg st fun v h' tk hv st' kk=> ?_
   obtain ⟨t,rfl⟩:=hv
   have I1:Inv X pins σ H { s with heap:=h',toks:=tk }:=I.turned (fun b o hb e=>kk b o (by simpa using hb) e) f0 f1 f3 f4 f5
   refine⟨_,rfl,qv1 (s:={ s with heap:=h',toks:=tk }) (n:="range_iterator") st' rfl rfl (by decide) ⟨.int (lo+i),H,I1,⟨t,?_⟩,⟨rfl,rfl⟩,st',fun b hb=>(hf b hb).1⟩⟩
   rw[Int.mul_one]
 done:=by
   intro X hP hw hK hc i pins s σ H E I hf st hg
   subst hP hw hK
   obtain ⟨f0,f1,f2,f3,f4,f5⟩:=hf it (by simp)
   exact wpAny_pyNext_range_end (I.ok.hd hc) st (by have:n≤i:=hg;omega) fun h' eb=>⟨rfl,I.turned (t':=s.toks) (fun b o hb e=>eb b o hb e) f0 f1 f3 f4 f5⟩
 self:=fun _ _ _ _ _ st h=>wpAny_pyIter_rangeiter st h
section
variable {X:Cx} {tg:Expr}
noncomputable def q9y (K:PySem.W.Frag) (tl:TE):TI:=fun σ H R=>tl σ H fun x H1=>∃ a,x=.ref a∧(∃ xs,SqL K H1 a xs)∧R (Itl K a) H1
noncomputable def iTup (K:PySem.W.Frag) (tl:TE):TI:=fun σ H R=>tl σ H fun x H1=>∃ a,x=.ref a∧(∃ xs,SqT K H1 a xs)∧R (Itt K a) H1
theorem q2k {l:Expr} {tl:TE} (hl:PE X l tl):PI X tg l (q9y X.K tl):=by
 intro pins s σ H R I h
 refine thn (hl pins s σ H _ I h) fun v s1 ⟨x,H1,I1,r1,q1⟩=> ?_
 obtain ⟨a,e,⟨xs,hq⟩,q⟩:=q1
 subst e
 cases r1
 obtain ⟨its,rv,p,hz⟩:=I1.list hq
 refine wpAny_pyIter_list p.isList ?_
 refine⟨s1.heap.objs.size,[s1.heap.objs.size],_,_,H1,rfl,I1.kept (t':=s1.toks) fun b o e=>Heap.get?_push_of_some _ e,qxe a _,⟨_,Heap.get?_push_size _ rfl,rfl,rfl⟩,fun b hb=> ?_,q⟩
 have e:b=s1.heap.objs.size:=by simpa using hb
 subst e
 exact I1.fpOk (Nat.le_refl _) (I1.hok.fresh (Nat.le_refl _))
theorem q56 {l:Expr} {tl:TE} (hl:PE X l tl):PI X tg l (iTup X.K tl):=by
 intro pins s σ H R I h
 refine thn (hl pins s σ H _ I h) fun v s1 ⟨x,H1,I1,r1,q1⟩=> ?_
 obtain ⟨a,e,⟨xs,hq⟩,q⟩:=q1
 subst e
 cases r1
 obtain ⟨its,rv,p,hz⟩:=I1.tuple hq
 refine wpAny_pyIter_tuple (show s1.heap.IsTuple a its.toArray from p) ?_
 refine⟨s1.heap.objs.size,[s1.heap.objs.size],_,_,H1,rfl,I1.kept (t':=s1.toks) fun b o e=>Heap.get?_push_of_some _ e,qus a _,⟨_,Heap.get?_push_size _ rfl,rfl,rfl⟩,fun b hb=> ?_,q⟩
 have e:b=s1.heap.objs.size:=by simpa using hb
 subst e
 exact I1.fpOk (Nat.le_refl _) (I1.hok.fresh (Nat.le_refl _))
theorem qr1 {pins:List (Addr × Obj)} {σ:St} {H:Hp} {s:Shared} {R:It→Hp→Prop} {E:Value→Shared→Prop} {lo hi:Int} {t u v:Tok} {tk:Nat} (I:Inv X pins σ H s) (h1: -(2 ^ 62)≤lo) (h2:lo < 2 ^ 62) (h3: -(2 ^ 62)≤hi) (h4:hi < 2 ^ 62)
   (q:R (Itr lo (hi - lo).toNat) H):wpAny (model X.prog X.w) X.A (pyIter (.ref s.heap.objs.size)) (PIE X pins σ tg R) E { s with heap:=s.heap.push { cls:=.type "range",data:=.fields #[.int lo t,.int hi u,.int 1 v] },toks:=tk }:=by
 refine wpAny_pyIter_range (IsRange.new ..) (small_one h1 h2 h3 h4) ?_
 have I1:Inv X pins σ H { s with heap:=s.heap.push { cls:=.type "range",data:=.fields #[.int lo t,.int hi u,.int 1 v] },toks:=tk }:=I.kept fun b o e=>Heap.get?_push_of_some _ e
 refine⟨(s.heap.push { cls:=.type "range",data:=.fields #[.int lo t,.int hi u,.int 1 v] }).objs.size,[(s.heap.push { cls:=.type "range",data:=.fields #[.int lo t,.int hi u,.int 1 v] }).objs.size],_,_,H,rfl,
   I1.kept (t':=tk) fun b o e=>Heap.get?_push_of_some _ e,qut _ lo (hi - lo).toNat,?_,fun b hb=> ?_,q⟩
 · have e1:lo+((0:Nat):Int) * 1=lo:=by simp
   have e2:(((hi - lo).toNat:Nat):Int) - ((0:Nat):Int)=Builtin.Range.rangeSize lo hi 1:=by rw[rangeSize_one];split <;> omega
   show IsRangeIter _ _ (lo+((0:Nat):Int) * 1) ((((hi - lo).toNat:Nat):Int) - ((0:Nat):Int)) 1
   rw[e1,e2]
   exact Heap.get?_push_size _ rfl
 · have e:b=(s.heap.push { cls:=.type "range",data:=.fields #[.int lo t,.int hi u,.int 1 v] }).objs.size:=by simpa using hb
   subst e
   exact I1.fpOk (Nat.le_refl _) (I1.hok.fresh (Nat.le_refl _))
noncomputable def q9z (ta:TA):TI:=fun σ H R=>ta σ H fun vs H1=>∃ j:Int,vs=[.int j]∧ -(2 ^ 62)≤j∧j < 2 ^ 62∧R (Itr 0 j.toNat) H1
noncomputable def q90 (ta:TA):TI:=fun σ H R=>ta σ H fun vs H1=>∃ i j:Int,vs=[.int i,.int j]∧(-(2 ^ 62)≤i∧i < 2 ^ 62∧ -(2 ^ 62)≤j∧j < 2 ^ 62)∧R (Itr i (j - i).toNat) H1
theorem qxf {a:Expr} {ta:TA} {p pos:Pos} (hg:Gl X "range") (hm:X.mg "range"=none) (ha:PA X [a] ta) (hs:starEach [a] X.env=[(false,eval a X.env)]:=by rfl):PI X tg (.Call (.Name "range" p) [a] [] pos) (q9z ta):=by
 intro pins s σ H R I h
 refine Call_ (qgh I hg hm boot_range (PyProof.Rows.callWith_type1 (thn (ha pos pins s σ H _ I h) fun us s1 ⟨vs,H1,I1,r1,q1⟩=> ?_) hs rfl))
 obtain ⟨j,e,q1,q2,q⟩:=q1
 subst e
 cases r1 with
 | cons r rr =>
   cases rr
   obtain ⟨t,rfl⟩:=r
   exact call_range_1 (qr1 I1 (by omega) (by omega) q1 q2 (by simpa using q))
theorem qxg {a b:Expr} {ta:TA} {p pos:Pos} (hg:Gl X "range") (hm:X.mg "range"=none) (ha:PA X [a,b] ta) (hs:starEach [a,b] X.env=[(false,eval a X.env),(false,eval b X.env)]:=by rfl) (hs2:starEach [b] X.env=[(false,eval b X.env)]:=by rfl) :
   PI X tg (.Call (.Name "range" p) [a,b] [] pos) (q90 ta):=by
 intro pins s σ H R I h
 refine Call_ (qgh I hg hm boot_range (PyProof.Rows.callWith_type1 (thn (ha pos pins s σ H _ I h) fun us s1 ⟨vs,H1,I1,r1,q1⟩=> ?_) (by rw[hs,hs2]) (by rw[hs2];rfl)))
 obtain ⟨i,j,e,⟨q1,q2,q3,q4⟩,q⟩:=q1
 subst e
 cases r1 with
 | cons r rr =>
   cases rr with
   | cons r' rr =>
     cases rr
     obtain ⟨t,rfl⟩:=r
     obtain ⟨t',rfl⟩:=r'
     exact call_range_2 (qr1 I1 q1 q2 q3 q4 q)
noncomputable def tFor (wi:TI) (g:TG) (tb:TS):TS:=fun D σ H=>wi σ H fun J H1=>∃ W:Nat→Nat→St→Hp→Prop,(∃ m,W 0 m σ H1)∧∀ i m σ H,W i m σ H →
 (J.stop i H∧D.nx σ H)∨(J.go i H∧∃ N:St→Hp→Prop,(∀ σ' H',N σ' H'→∃ m',m' < m∧W (i+1) m' σ' H')∧∀ x H',J.yld i H x H'→g x σ H' fun σ2 H2=>tb { D with nx:=N,ct:=N,bk:=D.nx } σ2 H2)
noncomputable def qej (fp:List Addr) (h:Heap):List (Addr × Obj):=fp.filterMap fun b=>(h.get? b).map fun o=>(b,o)
theorem qat {fp:List Addr} {h:Heap} {b:Addr} {o:Obj} (hb:b ∈ fp) (e:h.get? b=some o):(b,o) ∈ qej fp h:=List.mem_filterMap.mpr ⟨b,hb,by rw[e];rfl⟩
theorem qos {fp:List Addr} {h:Heap} {p:Addr × Obj} (hp:p ∈ qej fp h):p.1 ∈ fp∧h.get? p.1=some p.2:=by
 obtain ⟨b,hb,e⟩:=List.mem_filterMap.mp hp
 cases q:h.get? b with
 | none=>rw[q]at e;cases e
 | some o =>
   rw[q]at e
   have e':(b,o)=p:=Option.some.inj e
   subst e'
   exact⟨hb,q⟩
theorem Inv.pinned {pins:List (Addr × Obj)} {σ:St} {H:Hp} {s:Shared} {fp:List Addr} (I:Inv X pins σ H s) (hf:∀ b ∈ fp,qei X pins H b) (ho:∀ b ∈ fp,∃ o,s.heap.get? b=some o∧∀ v,o.data ≠ .cell v):Inv X (pins++qej fp s.heap) σ H s :=
 I.pins_of fun p hp=>(List.mem_append.mp hp).elim (fun z=>I.pin p (List.mem_append_right _ z)) fun z=>by
   obtain ⟨hb,e⟩:=qos z
   obtain ⟨f0,f1,f2,_⟩:=hf p.1 hb
   obtain ⟨o,e',d⟩:=ho p.1 hb
   rw[e]at e';cases e'
   exact⟨e,f0,f1,f2,d⟩
theorem Inv.unpinned {pins pl:List (Addr × Obj)} {σ:St} {H:Hp} {s:Shared} (I:Inv X (pins++pl) σ H s):Inv X pins σ H s:=I.pins_of fun p hp=>I.pin p (List.mem_append_right _ (List.mem_append_left _ hp))
theorem q57 {iter:Expr} {body:List Stmt} {wi:TI} {g:TG} {tb:TS} {pos:Pos} (hp:PassesOwn (model X.prog X.w) X.A X.env X.xe) (hc:X.calm=true) (hi:PI X tg iter wi) (hg:PG X tg g) (hb:PSs X body tb)
   (hs:∀ x,foldedSetIterable iter X.env x=pure x:=by intro _;rfl):PS X (.For tg iter body [] pos) (tFor wi g tb):=by
 intro pins s σ H D I h
 refine wpAny_For (thn (hi pins s σ H _ I h) fun v s1 h1=>thn h1 fun itv s2 h2=> ?_) hs
 obtain ⟨it,fp,tn,J,H2,e,I2,T,st2,f2,W,⟨m0,w0⟩,turn⟩:=h2
 subst e
 have stat:∀ {H':Hp},(∀ b ∈ fp,H' b=none)→∀ b ∈ fp,qei X pins H' b:=fun hn b hb=>⟨hn b hb,(f2 b hb).2⟩
 refine codeAny_forLoop_any (fun n s'=>∃ i σ' H',Inv X pins σ' H' s'∧tn i s'.heap∧(∀ b ∈ fp,H' b=none)∧W i n σ' H') ?_ m0 ⟨0,σ,H2,I2,st2,fun b hb=>(f2 b hb).1,w0⟩
 rintro n s3 ⟨i,σ3,H3,I3,st3,fr3,w3⟩
 rcases turn i n σ3 H3 w3 with ⟨stop,qn⟩ | ⟨go,N,hN,step⟩
 · refine wpAny_passesOwn hp (thn (T.done X rfl rfl rfl hc i pins s3 σ3 H3 X.xe I3 (stat fr3) st3 stop) fun r s4 ⟨hr,I4⟩=> ?_)
   subst hr
   exact wpAny_execs_nil ⟨σ3,H3,I4,qn⟩
 · refine wpAny_passesOwn hp (thn (T.item X rfl rfl rfl hc i pins s3 σ3 H3 X.xe I3 (stat fr3) st3 go) fun r s4 ⟨u,hr,h4⟩=> ?_)
   subst hr
   refine wpAny_passesOwn hp (thn h4 fun _ s5 ⟨x,H5,I5,r5,y5,st5,fr5⟩=> ?_)
   have I5':=I5.pinned (stat fr5) (T.obj _ _ st5)
   refine wpAny_passesOwn hp (thn (hg _ s5 σ3 H5 x u _ I5' r5 (step x H5 y5)) fun _ s6 ⟨σ6,H6,I6,q6⟩=> ?_)
   refine wpAny_passesOwn hp (thn (hb _ s6 σ6 H6 _ I6 q6) fun f s7 q7=> ?_)
   have again:∀ {σ7:St} {H7:Hp},Inv X (pins++qej fp s5.heap) σ7 H7 s7→N σ7 H7→∃ m,m < n∧∃ i σ' H',Inv X pins σ' H' s7∧tn i s7.heap∧(∀ b ∈ fp,H' b=none)∧W i m σ' H':=fun {σ7 H7} I7 n7=>by
     obtain ⟨m',hm,w7⟩:=hN σ7 H7 n7
     refine⟨m',hm,i+1,σ7,H7,I7.unpinned,T.keep _ _ _ st5 fun b hb o e=>(I7.pin (b,o) (List.mem_append_right _ (List.mem_append_right _ (qat hb e)))).1,fun b hb=> ?_,w7⟩
     obtain ⟨o,e,d⟩:=T.obj _ _ st5 b hb
     exact(I7.pin (b,o) (List.mem_append_right _ (List.mem_append_right _ (qat hb e)))).2.1
   cases f with
   | next=>obtain ⟨σ7,H7,I7,n7⟩:=q7;exact again I7 n7
   | cont=>obtain ⟨σ7,H7,I7,n7⟩:=q7;exact again I7 n7
   | brk=>obtain ⟨σ7,H7,I7,q7⟩:=q7;exact⟨σ7,H7,I7.unpinned,q7⟩
   | ret v=>obtain ⟨x7,σ7,H7,I7,r7,q7⟩:=q7;exact⟨x7,σ7,H7,I7.unpinned,r7,q7⟩
end
noncomputable abbrev R2:=V→V→Hp→VK→Prop
noncomputable def OpR (X:Cx) (f:Value→Value→Sem Value) (r:R2):Prop :=
 ∀ (pins:List (Addr × Obj)) (s:Shared) (σ:St) (H:Hp) (x y:V) (v u:Value) (Q:VK),Inv X pins σ H s→RelV x v→RelV y u→r x y H Q →
   wpAny (model X.prog X.w) X.A (f v u) (EP X pins σ Q) X.xe s
noncomputable def UnR (X:Cx) (f:Value→Sem Value) (r:V→Hp→VK→Prop):Prop :=
 ∀ (pins:List (Addr × Obj)) (s:Shared) (σ:St) (H:Hp) (x:V) (v:Value) (Q:VK),Inv X pins σ H s→RelV x v→r x H Q →
   wpAny (model X.prog X.w) X.A (f v) (EP X pins σ Q) X.xe s
noncomputable def qal (X:Cx) (f:Value) (r:List V→Hp→VK→Prop):Prop :=
 ∀ (pins:List (Addr × Obj)) (s:Shared) (σ:St) (H:Hp) (xs:List V) (us:List Value) (Q:VK),Inv X pins σ H s→Vals xs us→r xs H Q →
   wpAny (model X.prog X.w) X.A (call f us) (EP X pins σ Q) X.xe s
noncomputable def q91 (X:Cx) (r:V→Hp→(Bool→Hp→Prop)→Prop):Prop :=
 ∀ (pins:List (Addr × Obj)) (s:Shared) (σ:St) (H:Hp) (x:V) (v:Value) (Q:Bool→Hp→Prop),Inv X pins σ H s→RelV x v→r x H Q →
   wpAny (model X.prog X.w) X.A (truthy v) (TP X pins σ Q) X.xe s
noncomputable def tOp (r:R2) (ta tb:TE):TE:=fun σ H Q=>ta σ H fun x H1=>tb σ H1 fun y H2=>r x y H2 Q
noncomputable def tUn (r:V→Hp→VK→Prop) (ta:TE):TE:=fun σ H Q=>ta σ H fun x H1=>r x H1 Q
noncomputable def rI (C:Int→Int→Prop) (g:Int→Int→V):R2:=fun x y H Q=>∃ i j,x=.int i∧y=.int j∧C i j∧Q (g i j) H
noncomputable def rI0 (g:Int→Int→V):R2:=fun x y H Q=>∃ i j,x=.int i∧y=.int j∧Q (g i j) H
noncomputable def rU (g:Int→V):V→Hp→VK→Prop:=fun x H Q=>∃ i,x=.int i∧Q (g i) H
section
variable {X:Cx} {a b c:Expr} {ta tb tc:TE} {pos:Pos}
theorem q58 (ha:PE X a ta) (hb:PE X b tb) {pins:List (Addr × Obj)} {s:Shared} {σ:St} {H:Hp} {R:V→V→Hp→Prop} (I:Inv X pins σ H s)
   (h:ta σ H fun x H1=>tb σ H1 fun y H2=>R x y H2) {Q:Value→Shared→Prop} {f:Value→Value→Sem Value}
   (hf:∀ v u s2 x y H2,Inv X pins σ H2 s2→RelV x v→RelV y u→R x y H2→wpAny (model X.prog X.w) X.A (f v u) Q X.xe s2) :
   wpAny (model X.prog X.w) X.A (eval a X.env) (fun v s₁=>wpAny (model X.prog X.w) X.A (eval b X.env) (fun u s₂=>wpAny (model X.prog X.w) X.A (f v u) Q X.xe s₂) X.xe s₁) X.xe s:=by
 refine thn (ha pins s σ H _ I h) fun v s1 ⟨x,H1,I1,r1,q1⟩=> ?_
 refine thn (hb pins s1 σ H1 _ I1 q1) fun u s2 ⟨y,H2,I2,r2,q2⟩=> ?_
 exact hf v u s2 x y H2 I2 r1 r2 q2
theorem q92 {op:Operator} {r:R2} (ho:OpR X (binaryOp op) r) (ha:PE X a ta) (hb:PE X b tb):PE X (.BinOp a op b pos) (tOp r ta tb):=by
 intro pins s σ H Q I h
 exact wpAny_BinOp (q58 ha hb I h fun v u s2 x y H2 I2 rx ry q=>ho pins s2 σ H2 x y v u Q I2 rx ry q)
theorem q93 {op:UnaryOp} {r:V→Hp→VK→Prop} (ho:UnR X (unaryOp op) r) (ha:PE X a ta):PE X (.UnaryOp op a pos) (tUn r ta):=by
 intro pins s σ H Q I h
 exact UnaryOp_ (thn (ha pins s σ H _ I h) fun v s1 ⟨x,H1,I1,r1,q1⟩=>ho pins s1 σ H1 x v Q I1 r1 q1)
theorem opI {f:Value→Value→Sem Value} {C:Int→Int→Prop} {g:Int→Int→Int}
   (rule:∀ (i j:Int) (t u:Tok) (s:Shared) (Q:Value→Shared→Prop) (E:Value→Shared→Prop),C i j→Q (.int (g i j) s.toks) { s with toks:=s.toks+1 }→wpAny (model X.prog X.w) X.A (f (.int i t) (.int j u)) Q E s) :
   OpR X f (rI C fun i j=>.int (g i j)):=by
 intro pins s σ H x y v u Q I rx ry h
 obtain ⟨i,j,rfl,rfl,hc,q⟩:=h
 obtain ⟨t,rfl⟩:=rx
 obtain ⟨t',rfl⟩:=ry
 exact rule i j t t' s _ _ hc ⟨.int (g i j),H,I.tok _,⟨_,rfl⟩,q⟩
theorem q94 {f:Value→Value→Sem Value} {g:Int→Int→Int}
   (rule:∀ (i j:Int) (t u:Tok) (s:Shared) (Q:Value→Shared→Prop) (E:Value→Shared→Prop),Q (.int (g i j) s.toks) { s with toks:=s.toks+1 }→wpAny (model X.prog X.w) X.A (f (.int i t) (.int j u)) Q E s) :
   OpR X f (rI0 fun i j=>.int (g i j)):=by
 intro pins s σ H x y v u Q I rx ry h
 obtain ⟨i,j,rfl,rfl,q⟩:=h
 obtain ⟨t,rfl⟩:=rx
 obtain ⟨t',rfl⟩:=ry
 exact rule i j t t' s _ _ ⟨.int (g i j),H,I.tok _,⟨_,rfl⟩,q⟩
theorem q2l {f:Value→Value→Sem Value} {g:Int→Int→Bool}
   (rule:∀ (i j:Int) (t u:Tok) (s:Shared) (Q:Value→Shared→Prop) (E:Value→Shared→Prop),Q (.bool (g i j)) s→wpAny (model X.prog X.w) X.A (f (.int i t) (.int j u)) Q E s) :
   OpR X f (rI0 fun i j=>.bl (g i j)):=by
 intro pins s σ H x y v u Q I rx ry h
 obtain ⟨i,j,rfl,rfl,q⟩:=h
 obtain ⟨t,rfl⟩:=rx
 obtain ⟨t',rfl⟩:=ry
 exact rule i j t t' s _ _ ⟨.bl (g i j),H,I,rfl,q⟩
noncomputable def qr2 (i j:Int):Prop:=0≤j∧j≤1000000∧i.natAbs < 2 ^ 64
noncomputable def qxh (i j:Int):Prop:=(-(2 ^ 64) < i∧i < 2 ^ 64)∨(-(2 ^ 64) < j∧j < 2 ^ 64)
theorem qxh.ok {i j:Int} (h:qxh i j):IntMulOk i j:=by
 rcases h with ⟨h1,h2⟩ | ⟨h1,h2⟩
 · exact .of_left (intBits_le_64 h1 h2)
 · exact .of_right (intBits_le_64 h1 h2)
theorem q59:OpR X (binaryOp .Add) (rI0 fun i j=>.int (i+j)):=q94 fun _ _ _ _ _ _ _ q=>add_int q
theorem q6a:OpR X (binaryOp .Sub) (rI0 fun i j=>.int (i - j)):=q94 fun _ _ _ _ _ _ _ q=>sub_int q
theorem q6b:OpR X (binaryOp .Mult) (rI qxh fun i j=>.int (i * j)):=opI fun _ _ _ _ _ _ _ hc q=>mul_int q hc.ok
theorem q6c:OpR X (binaryOp .Mod) (rI (fun _ j=>0 < j) fun i j=>.int (i % j)):=opI fun i j _ _ _ _ _ hc q=>by
 have h1:(0:Int) < j:=hc
 exact mod_int' (by omega) (by rw[Int.fmod_eq_emod_of_nonneg i (by omega)];exact q)
theorem q6d:OpR X (binaryOp .Pow) (rI qr2 fun i j=>.int (i ^ j.toNat)):=opI fun _ _ _ _ _ _ _ hc q=>pow_int_small hc.1 hc.2.1 hc.2.2 q
theorem unI {f:Value→Sem Value} {g:Int→Int}
   (rule:∀ (i:Int) (t:Tok) (s:Shared) (Q:Value→Shared→Prop) (E:Value→Shared→Prop),Q (.int (g i) s.toks) { s with toks:=s.toks+1 }→wpAny (model X.prog X.w) X.A (f (.int i t)) Q E s) :
   UnR X f (rU fun i=>.int (g i)):=by
 intro pins s σ H x v Q I rx h
 obtain ⟨i,rfl,q⟩:=h
 obtain ⟨t,rfl⟩:=rx
 exact rule i t s _ _ ⟨.int (g i),H,I.tok _,⟨_,rfl⟩,q⟩
theorem q6e:UnR X (unaryOp .USub) (rU fun i=>.int (-i)):=unI fun _ _ _ _ _ q=>neg_int q
end
noncomputable def qp0:V→V→Bool
 | .non,.non=>true | .non,.int _=>true | .int _,.non=>true | .non,.bl _=>true | .bl _,.non=>true | .non,.str _=>true | .str _,.non=>true
 | .int _,.int _=>true | .bl _,.bl _=>true | .str _,.str _=>true | .byt _,.byt _=>true
 | .int _,.str _=>true | .str _,.int _=>true | .bl _,.str _=>true | .str _,.bl _=>true
 | _,_=>false
noncomputable def rEq:R2:=fun x y H Q=>qp0 x y=true∧Q (.bl (decide (x=y))) H
noncomputable def rNe:R2:=fun x y H Q=>qp0 x y=true∧Q (.bl (!decide (x=y))) H
theorem qp1 {i j:Int}:decide (V.int i=V.int j)=(i==j):=by
 rw[Bool.eq_iff_iff]
 simp
theorem qy5 {i j:Bool}:decide (V.bl i=V.bl j)=(i==j):=by
 rw[Bool.eq_iff_iff]
 simp
theorem qv2 {i j:Str}:decide (V.str i=V.str j)=(i==j):=by
 rw[Bool.eq_iff_iff]
 simp
theorem qv3 {i j:Array UInt8}:decide (V.byt i=V.byt j)=(i.toList==j.toList):=by
 rw[Bool.eq_iff_iff]
 cases i
 cases j
 simp
section
variable {X:Cx} {a b c:Expr} {ta tb tc:TE} {pos:Pos}
theorem ql {pins:List (Addr × Obj)} {σ:St} {H:Hp} {s:Shared} {Q:VK} {k k':Bool} (I:Inv X pins σ H s) (q:Q (.bl k) H) (e:k=k'):EP X pins σ Q (.bool k') s:=by
 subst e
 exact⟨.bl k,H,I,rfl,q⟩
theorem q95:OpR X (compareOp .Eq) rEq:=by
 intro pins s σ H x y v u Q I rx ry h
 obtain ⟨hs,q⟩:=h
 cases x with
 | non =>
   cases rx
   cases y with
   | non=>cases ry;exact PySem.EqNone.eq_none_none (ql I q (by simp))
   | bl j=>cases ry;exact PySem.EqNone.eq_none_bool (ql I q (by simp))
   | int j=>obtain ⟨t',rfl⟩:=ry;exact PySem.EqNone.eq_none_int (ql I q (by simp))
   | str j=>obtain ⟨t',rfl⟩:=ry;exact PySem.EqNone.eq_none_str (ql I q (by simp))
   | _=>exact absurd (show false=true from hs) Bool.false_ne_true
 | bl i =>
   cases rx
   cases y with
   | non=>cases ry;exact PySem.EqNone.eq_bool_none (ql I q (by simp))
   | bl j=>cases ry;exact eq_bool (ql I q qy5)
   | str j=>obtain ⟨t',rfl⟩:=ry;exact PySem.EqMixed.eq_bool_str (ql I q (by simp))
   | _=>exact absurd (show false=true from hs) Bool.false_ne_true
 | int i =>
   obtain ⟨t,rfl⟩:=rx
   cases y with
   | non=>cases ry;exact PySem.EqNone.eq_int_none (ql I q (by simp))
   | int j=>obtain ⟨t',rfl⟩:=ry;exact eq_int (ql I q qp1)
   | str j=>obtain ⟨t',rfl⟩:=ry;exact PySem.EqMixed.eq_int_str (ql I q (by simp))
   | _=>exact absurd (show false=true from hs) Bool.false_ne_true
 | str i =>
   obtain ⟨t,rfl⟩:=rx
   cases y with
   | non=>cases ry;exact PySem.EqNone.eq_str_none (ql I q (by simp))
   | bl j=>cases ry;exact PySem.EqMixed.eq_str_bool (ql I q (by simp))
   | int j=>obtain ⟨t',rfl⟩:=ry;exact PySem.EqMixed.eq_str_int (ql I q (by simp))
   | str j=>obtain ⟨t',rfl⟩:=ry;exact eq_str (ql I q qv2)
   | _=>exact absurd (show false=true from hs) Bool.false_ne_true
 | byt i =>
   obtain ⟨t,rfl⟩:=rx
   cases y with
   | byt j=>obtain ⟨t',rfl⟩:=ry;exact PySem.W.eq_bytes (ql I q qv3)
   | _=>exact absurd (show false=true from hs) Bool.false_ne_true
 | _=>cases y <;> exact absurd (show false=true from hs) Bool.false_ne_true
theorem q96:OpR X (compareOp .NotEq) rNe:=by
 intro pins s σ H x y v u Q I rx ry h
 obtain ⟨hs,q⟩:=h
 cases x with
 | non =>
   cases rx
   cases y with
   | non=>cases ry;exact PySem.EqNone.ne_none_none (ql I q (by simp))
   | bl j=>cases ry;exact PySem.EqNone.ne_none_bool (ql I q (by simp))
   | int j=>obtain ⟨t',rfl⟩:=ry;exact PySem.EqNone.ne_none_int (ql I q (by simp))
   | str j=>obtain ⟨t',rfl⟩:=ry;exact PySem.EqNone.ne_none_str (ql I q (by simp))
   | _=>exact absurd (show false=true from hs) Bool.false_ne_true
 | bl i =>
   cases rx
   cases y with
   | non=>cases ry;exact PySem.EqNone.ne_bool_none (ql I q (by simp))
   | bl j=>cases ry;exact ne_bool (ql I q (congrArg not qy5))
   | str j=>obtain ⟨t',rfl⟩:=ry;exact PySem.EqMixed.ne_bool_str (ql I q (by simp))
   | _=>exact absurd (show false=true from hs) Bool.false_ne_true
 | int i =>
   obtain ⟨t,rfl⟩:=rx
   cases y with
   | non=>cases ry;exact PySem.EqNone.ne_int_none (ql I q (by simp))
   | int j=>obtain ⟨t',rfl⟩:=ry;exact ne_int (ql I q (congrArg not qp1))
   | str j=>obtain ⟨t',rfl⟩:=ry;exact PySem.EqMixed.ne_int_str (ql I q (by simp))
   | _=>exact absurd (show false=true from hs) Bool.false_ne_true
 | str i =>
   obtain ⟨t,rfl⟩:=rx
   cases y with
   | non=>cases ry;exact PySem.EqNone.ne_str_none (ql I q (by simp))
   | bl j=>cases ry;exact PySem.EqMixed.ne_str_bool (ql I q (by simp))
   | int j=>obtain ⟨t',rfl⟩:=ry;exact PySem.EqMixed.ne_str_int (ql I q (by simp))
   | str j=>obtain ⟨t',rfl⟩:=ry;exact ne_str (ql I q (congrArg not qv2))
   | _=>exact absurd (show false=true from hs) Bool.false_ne_true
 | byt i =>
   obtain ⟨t,rfl⟩:=rx
   cases y with
   | byt j=>obtain ⟨t',rfl⟩:=ry;exact PySem.W.ne_bytes (ql I q (congrArg not qv3))
   | _=>exact absurd (show false=true from hs) Bool.false_ne_true
 | _=>cases y <;> exact absurd (show false=true from hs) Bool.false_ne_true
theorem q97:OpR X (compareOp .Lt) (rI0 fun i j=>.bl (decide (i < j))):=q2l fun _ _ _ _ _ _ _ q=>lt_int q
theorem q98:OpR X (compareOp .LtE) (rI0 fun i j=>.bl (decide (i≤j))):=q2l fun _ _ _ _ _ _ _ q=>le_int q
theorem q99:OpR X (compareOp .Gt) (rI0 fun i j=>.bl (decide (j < i))):=q2l fun _ _ _ _ _ _ _ q=>gt_int q
theorem qaaa:OpR X (compareOp .GtE) (rI0 fun i j=>.bl (decide (j≤i))):=q2l fun _ _ _ _ _ _ _ q=>ge_int q
theorem qxi:OpR X (compareOp .In) (fun x y H Q=>∃ i j,x=.str i∧y=.str j∧Q (.bl (!(Builtin.Str.occurrences j i 0 j.length 1).isEmpty)) H):=by
 intro pins s σ H x y v u Q I rx ry h
 obtain ⟨i,j,rfl,rfl,q⟩:=h
 obtain ⟨t,rfl⟩:=rx
 obtain ⟨t',rfl⟩:=ry
 exact in_str (ql I q rfl)
theorem q6f:OpR X (compareOp .Is) (fun x y H Q=>y=.non∧Q (.bl (decide (x=.non))) H):=by
 intro pins s σ H x y v u Q I rx ry h
 obtain ⟨rfl,q⟩:=h
 cases ry
 refine is_none_gen (ql I q ?_)
 cases x <;> first
   | (cases rx;rfl)
   | (obtain ⟨t,rfl⟩:=rx;rfl)
theorem q2m:OpR X (compareOp .IsNot) (fun x y H Q=>y=.non∧Q (.bl (!decide (x=.non))) H):=by
 intro pins s σ H x y v u Q I rx ry h
 obtain ⟨rfl,q⟩:=h
 cases ry
 refine isnot_none_gen (ql I q ?_)
 cases x <;> first
   | (cases rx;rfl)
   | (obtain ⟨t,rfl⟩:=rx;rfl)
theorem qp2:OpR X (compareOp .NotIn) (fun x y H Q=>∃ i j,x=.str i∧y=.str j∧Q (.bl (!(!(Builtin.Str.occurrences j i 0 j.length 1).isEmpty))) H):=by
 intro pins s σ H x y v u Q I rx ry h
 obtain ⟨i,j,rfl,rfl,q⟩:=h
 obtain ⟨t,rfl⟩:=rx
 obtain ⟨t',rfl⟩:=ry
 exact notIn_str (ql I q rfl)
theorem OpR.or {f:Value→Value→Sem Value} {r r':R2} (h:OpR X f r) (h':OpR X f r'):OpR X f (fun x y H Q=>r x y H Q∨r' x y H Q):=by
 intro pins s σ H x y v u Q I rx ry q
 rcases q with q | q
 · exact h pins s σ H x y v u Q I rx ry q
 · exact h' pins s σ H x y v u Q I rx ry q
theorem q2n {op:CmpOp} {r:R2} (ho:OpR X (compareOp op) r) (ha:PE X a ta) (hb:PE X b tb) (hm:behindInMarks op b=false):PE X (.Compare a [op] [b] pos) (tOp r ta tb):=by
 intro pins s σ H Q I h
 exact wpAny_Compare1 (q58 ha hb I h fun v u s2 x y H2 I2 rx ry q=>ho pins s2 σ H2 x y v u Q I2 rx ry q) hm
noncomputable def q4z (t:TE):TT:=fun σ H Q=>t σ H fun x H'=>∃ k,x=.bl k∧Q k H'
theorem q2o {op:CmpOp} {r:R2} (ho:OpR X (compareOp op) r) (ha:PE X a ta) (hb:PE X b tb) (hm:behindInMarks op b=false):PT X (.Compare a [op] [b] pos) (q4z (tOp r ta tb)):=by
 intro pins s σ H Q I h
 refine wpAny_isTrue_Compare1 (thn (ha pins s σ H _ I h) fun v s1 ⟨x,H1,I1,r1,q1⟩=>thn (hb pins s1 σ H1 _ I1 q1) fun u s2 ⟨y,H2,I2,r2,q2⟩ =>
   thn (ho pins s2 σ H2 x y v u _ I2 r1 r2 q2) fun c s3 ⟨z,H3,I3,r3,k,e,q3⟩=> ?_) hm
 subst e
 cases r3
 exact wpAny_truthy_bool ⟨H3,I3,q3⟩
noncomputable def quu (r r':R2) (ta tb tc:TE):TE:=fun σ H Q=>ta σ H fun x H1=>tb σ H1 fun y H2=>r x y H2 fun z H3=>∃ k,z=.bl k ∧
 (if k=true then tc σ H3 fun w' H4=>r' y w' H4 Q else Q (.bl false) H3)
theorem qy6 {op op':CmpOp} {r r':R2} (ho:OpR X (compareOp op) r) (ho':OpR X (compareOp op') r') (ha:PE X a ta) (hb:PE X b tb) (hc:PE X c tc)
   (hm:lastMarks [op,op'] [b,c]=false:=by with_unfolding_all rfl):PE X (.Compare a [op,op'] [b,c] pos) (quu r r' ta tb tc):=by
 intro pins s σ H Q I h
 refine Compare_chain (thn (ha pins s σ H _ I h) fun v s1 ⟨x,H1,I1,r1,q1⟩=>chain_link (thn (hb pins s1 σ H1 _ I1 q1) fun u s2 ⟨y,H2,I2,r2,q2⟩ =>
   thn (ho pins s2 σ H2 x y v u _ I2 r1 r2 q2) fun d s3 ⟨z,H3,I3,r3,k,e,q3⟩=> ?_)) hm
 subst e
 cases r3
 refine wpAny_truthy_bool ?_
 cases k with
 | false=>exact ite_ff ⟨.bl false,H3,I3,rfl,q3⟩
 | true=>exact ite_tt (chain_last (thn (hc pins s3 σ H3 _ I3 q3) fun w' s4 ⟨z',H4,I4,r4,q4⟩=>ho' pins s4 σ H4 y z' u w' Q I4 r2 r4 q4))
theorem qy7 {op op':CmpOp} {r r':R2} (ho:OpR X (compareOp op) r) (ho':OpR X (compareOp op') r') (ha:PE X a ta) (hb:PE X b tb) (hc:PE X c tc)
   (hm:lastMarks [op,op'] [b,c]=false:=by with_unfolding_all rfl):PT X (.Compare a [op,op'] [b,c] pos) (q4z (quu r r' ta tb tc)):=by
 intro pins s σ H Q I h
 refine isTrue_chain (thn (ha pins s σ H _ I h) fun v s1 ⟨x,H1,I1,r1,q1⟩=>test_link (thn (hb pins s1 σ H1 _ I1 q1) fun u s2 ⟨y,H2,I2,r2,q2⟩ =>
   thn (ho pins s2 σ H2 x y v u _ I2 r1 r2 q2) fun d s3 ⟨z,H3,I3,r3,k,e,q3⟩=> ?_)) hm
 subst e
 cases r3
 refine wpAny_truthy_bool ?_
 cases k with
 | false =>
   obtain ⟨k',e',q'⟩:=q3
   cases e'
   exact ite_ff ⟨H3,I3,q'⟩
 | true =>
   refine ite_tt (test_last (thn (hc pins s3 σ H3 _ I3 q3) fun w' s4 ⟨z',H4,I4,r4,q4⟩=>thn (ho' pins s4 σ H4 y z' u w' _ I4 r2 r4 q4) fun d' s5 ⟨z2,H5,I5,r5,k2,e2,q5⟩=> ?_))
   subst e2
   cases r5
   exact wpAny_truthy_bool ⟨H5,I5,q5⟩
noncomputable def TruV (K:PySem.W.Frag) (x:V) (H:Hp) (k:Bool):Prop :=
 match x with
 | .non=>k=false
 | .bl b=>k=b
 | .int i=>k=(i != 0)
 | .str y=>y.length≤sizeLine∧k=((y.length:Int) != 0)
 | .byt y=>y.size≤sizeLine∧k=((y.size:Int) != 0)
 | .ref p=>(∃ xs,SqL K H p xs∧k= !xs.isEmpty)∨(∃ xs,SqT K H p xs∧k= !xs.isEmpty)∨∃ kvs,H p=some (.dK kvs)∧k= !kvs.isEmpty
 | _=>False
theorem quv {κ:Type} {kvs:List (κ × V)} {vs:List (κ × Value)} (r:KV kvs vs):(!vs.isEmpty)= !kvs.isEmpty:=by
 cases r <;> rfl
theorem qlk {xs:List V} {its:List Value} (r:Vals xs its):(!its.toArray.isEmpty)= !xs.isEmpty:=by
 cases r <;> simp
theorem qe9:(sizeLine:Nat) < 2 ^ 63:=by rw[sizeLine_eq];decide
theorem q6g:q91 X (fun x H Q=>∃ k,TruV X.K x H k∧Q k H):=by
 intro pins s σ H x v Q I rx h
 obtain ⟨k,e,q⟩:=h
 have hl:=qe9
 have hs:sizeLine=16777216:=sizeLine_eq
 cases x with
 | non =>
   cases rx
   have e':k=false:=e
   subst e'
   exact truthy_none ⟨H,I,q⟩
 | bl b =>
   cases rx
   have e':k=b:=e
   subst e'
   exact wpAny_truthy_bool ⟨H,I,q⟩
 | int i =>
   obtain ⟨t,rfl⟩:=rx
   have e':k=(i != 0):=e
   subst e'
   exact PySem.P.truthy_int ⟨H,I,q⟩
 | str y =>
   obtain ⟨t,rfl⟩:=rx
   obtain ⟨hy,e'⟩:y.length≤sizeLine∧k=((y.length:Int) != 0):=e
   subst e'
   exact PySem.P.truthy_str (by omega) ⟨H,I.tok _,q⟩
 | byt y =>
   obtain ⟨t,rfl⟩:=rx
   obtain ⟨hy,e'⟩:y.size≤sizeLine∧k=((y.size:Int) != 0):=e
   subst e'
   exact PySem.W.truthy_bytes (by omega) ⟨H,I.tok _,q⟩
 | ref p =>
   cases rx
   have e':(∃ xs,SqL X.K H p xs∧k= !xs.isEmpty)∨(∃ xs,SqT X.K H p xs∧k= !xs.isEmpty)∨∃ kvs,H p=some (.dK kvs)∧k= !kvs.isEmpty:=e
   rcases e' with ⟨xs,hx,e'⟩ | ⟨xs,hx,e'⟩ | ⟨kvs,hx,e'⟩
   · subst e'
     obtain ⟨its,r,pl,hz⟩:=I.list hx
     have hlen:=r.length
     exact wpAny_truthy_list pl.isList (by simp only [List.size_toArray];omega) ⟨H,I.tok _,by rw[qlk r];exact q⟩
   · subst e'
     obtain ⟨its,r,pl,hz⟩:=I.tuple hx
     have hlen:=r.length
     exact truthy_tuple pl (by simp only [List.size_toArray];omega) ⟨H,I.tok _,by rw[qlk r];exact q⟩
   · subst e'
     obtain ⟨hz,hS,vs,r,m⟩:kvs.length≤sizeLine∧(p==sysModules)=false∧∃ vs,KV kvs vs∧s.heap.DictOf (qm X.prog X.w) p vs:=I.hok p _ hx
     have hlen:kvs.length=vs.length:=Paired.length r
     exact wpAny_truthy_dict hS m (by omega) ⟨H,I.tok _,by rw[quv r];exact q⟩
 | _=>exact(show False from e).elim
theorem quw:OpR X (binaryOp .Add) (fun x y H Q=>∃ i j,x=.str i∧y=.str j∧i.length+j.length≤sizeLine∧Q (.str (i++j)) H):=by
 intro pins s σ H x y v u Q I rx ry h
 obtain ⟨i,j,rfl,rfl,hz,q⟩:=h
 obtain ⟨t,rfl⟩:=rx
 obtain ⟨t',rfl⟩:=ry
 exact add_str (fun t' tk=>⟨.str (i++j),H,I.tok _,⟨_,rfl⟩,q⟩) hz
theorem vals1 {x:V} {us:List Value} (r:Vals [x] us):∃ u,us=[u]∧RelV x u:=by
 cases r with
 | cons r1 r2=>cases r2;exact⟨_,rfl,r1⟩
theorem vals2 {x y:V} {us:List Value} (r:Vals [x,y] us):∃ u w',us=[u,w']∧RelV x u∧RelV y w':=by
 cases r with
 | cons r1 r2 =>
   cases r2 with
   | cons r3 r4=>cases r4;exact⟨_,_,rfl,r1,r3⟩
theorem qxj (hc:X.calm=true):qal X (.builtin "max") (fun xs H Q=>∃ i j,xs=[.int i,.int j]∧Q (.int (if j > i then j else i)) H):=by
 intro pins s σ H xs us Q I r h
 obtain ⟨i,j,rfl,q⟩:=h
 obtain ⟨u,w',rfl,⟨t,rfl⟩,⟨t',rfl⟩⟩:=vals2 r
 refine max_two_ints (I.ok.hd hc) fun h' tk k=>⟨_,H,I.kept k,?_,q⟩
 by_cases hj:j > i
 · rw[if_pos hj,if_pos hj];exact⟨_,rfl⟩
 · rw[if_neg hj,if_neg hj];exact⟨_,rfl⟩
theorem qxk (hc:X.calm=true):qal X (.builtin "min") (fun xs H Q=>∃ i j,xs=[.int i,.int j]∧Q (.int (if j < i then j else i)) H):=by
 intro pins s σ H xs us Q I r h
 obtain ⟨i,j,rfl,q⟩:=h
 obtain ⟨u,w',rfl,⟨t,rfl⟩,⟨t',rfl⟩⟩:=vals2 r
 refine min_two_ints (I.ok.hd hc) fun h' tk k=>⟨_,H,I.kept k,?_,q⟩
 by_cases hj:j < i
 · rw[if_pos hj,if_pos hj];exact⟨_,rfl⟩
 · rw[if_neg hj,if_neg hj];exact⟨_,rfl⟩
theorem qxl:qal X (.type "int") (fun xs H Q=>(∃ i,xs=[.int i]∧Q (.int i) H)∨∃ k,xs=[.bl k]∧Q (.int (if k then 1 else 0)) H):=by
 intro pins s σ H xs us Q I r h
 rcases h with ⟨i,rfl,q⟩ | ⟨k,rfl,q⟩
 · obtain ⟨u,rfl,t,rfl⟩:=vals1 r
   exact call_int_int ⟨.int i,H,I,⟨_,rfl⟩,q⟩
 · obtain ⟨u,rfl,r1⟩:=vals1 r
   cases r1
   exact call_int_bool ⟨.int (if k then 1 else 0),H,I.tok _,⟨_,rfl⟩,q⟩
theorem qp3:qal X (.type "str") (fun xs H Q=>∃ i,xs=[.int i]∧i.natAbs.log2 < 1920∧Q (.str (toString i)) H):=by
 intro pins s σ H xs us Q I r h
 obtain ⟨i,rfl,hz,q⟩:=h
 obtain ⟨u,rfl,t,rfl⟩:=vals1 r
 exact PySem.P.str_of_int hz ⟨.str _,H,I.tok _,⟨_,rfl⟩,q⟩
end
structure q6h (h:Heap) (x dx C:Addr) (mA:Str→Option Value):Prop where
 obj:h.get? x=some (PySem.W.instObj C dx)
 ns:h.Ns1 dx mA
 ne:dx ≠ x
theorem qxm {h:Heap} {dx:Addr} {mA:Str→Option Value} (n:h.Ns1 dx mA):∃ od,h.get? dx=some od∧∀ name,PySem.W.lookIn name od=some (mA name):=by
 obtain ⟨o,es,ep,ho,hd,hk,_,hm⟩:=n
 refine⟨o,ho,fun name=> ?_⟩
 have e:=hm name
 unfold nsFind findBy at e
 rw[← Array.find?_toList]at e
 unfold PySem.W.lookIn
 rw[hd]
 dsimp only
 split
 · rename_i y q
   rw[q]at e
   exact congrArg some e
 · rename_i q
   rw[q]at e
   have a:es.toList.any (·.refKey)=false:=by
     rw[List.any_eq_false]
     intro y hy
     obtain ⟨z,t,hkey⟩:=hk y (Array.mem_toList_iff.mp hy)
     simp [DictEntry.refKey,hkey]
   have a':¬ es.toList.any (·.refKey)=true:=by rw[a];exact Bool.false_ne_true
   rw[if_neg a']
   exact congrArg some e
theorem q6h.look {h:Heap} {x dx C:Addr} {mA:Str→Option Value} (I:q6h h x dx C mA):∃ od,PySem.W.InstAt h x (PySem.W.instObj C dx) C (some od)∧∀ name,PySem.W.lookIn name od=some (mA name) :=
 let ⟨od,ho,hl⟩:=qxm I.ns
 ⟨od,⟨I.obj,rfl,rfl,ho⟩,hl⟩
section
variable {prog:Program} {w:World} {A:Around} {E:Value→Shared→Prop} {s:Shared} {K:PySem.W.Frag} {x dx C f:Addr} {mA:Str→Option Value} {name:Str} {v:Value}
end
theorem qli.some_of {v:V} {o:Option Value} (r:qli (some v) o):∃ u,o=some u∧RelV v u:=by
 cases o with
 | none=>exact(show False from r).elim
 | some u=>exact⟨u,rfl,r⟩
section
variable {P:Program} {w:World} {H H':Hp} {h h':Heap} {a C dx:Addr} {fs fs':List (Str × V)}
theorem q2p (hok:HOk P w H h) (e:H a=some (.ins C dx fs)):∃ mA,q6h h a dx C mA∧(∀ f,qli (fs.lookup f) (mA f))∧PySem.Within mA (fs.map (·.1))∧fs.length≤1000∧H dx=some (.own a):=by
 obtain ⟨d,z,ne,ob,mA,n,r,q⟩:=(show qau P w H h a (.ins C dx fs) from hok a _ e)
 exact⟨mA,⟨ob,n,ne⟩,r,q,z,d⟩
end
structure Cls (K:PySem.W.Frag) (C:Addr):Prop where
 pg:PySem.W.plainGet K C Str.empty=true
 hd:PySem.W.hasDictIn K C=true
 po:PySem.W.plainOver K C=true
 sa:PySem.W.findIn K (.ref C) "__setattr__"=some (some (.builtin "object.__setattr__"))
theorem Cls.get {K:PySem.W.Frag} {C:Addr} (c:Cls K C) (f:Str):PySem.W.plainGet K C f=true:=c.pg
section
variable {X:Cx} {pins:List (Addr × Obj)} {σ:St} {H:Hp} {s:Shared} {a C dx:Addr} {fs:List (Str × V)} {f:Str} {v:V} {A:Around} {E:Value→Shared→Prop}
end
section
variable {X:Cx} {o e value:Expr} {f:Str} {pos pos' tpos:Pos} {ta tv:TE}
end
section
variable {X:Cx} {pins:List (Addr × Obj)} {σ:St} {H:Hp} {s:Shared} {A:Around} {E:Value→Shared→Prop} {Q:Value→Shared→Prop} {c:Value} {b:Bool}
inductive qhh (K:PySem.W.Frag) (H:Hp):V→Value→Prop where
 | non:qhh K H .non (.type "NoneType")
 | bl (x:Bool):qhh K H (.bl x) (.type "bool")
 | int (i:Int):qhh K H (.int i) (.type "int")
 | str (x:Str):qhh K H (.str x) (.type "str")
 | flt (x:UInt64):qhh K H (.flt x) (.type "float")
 | lst {a:Addr} {xs:List V} (e:H a=some (.lst xs)):qhh K H (.ref a) (.type "list")
 | frz {a:Addr} {o:Obj} {xs:List V} (e:H a=some (.frz o (.lst xs))):qhh K H (.ref a) (.type "list")
 | tup {a:Addr} {xs:List V} (e:H a=some (.tup xs)):qhh K H (.ref a) (.type "tuple")
 | dK {a:Addr} {kvs:List (Key × V)} (e:H a=some (.dK kvs)):qhh K H (.ref a) (.type "dict")
 | dT {a:Addr} {kvs:List (List Key × V)} (e:H a=some (.dT kvs)):qhh K H (.ref a) (.type "dict")
 | ins {a C dx:Addr} {fs:List (Str × V)} (e:H a=some (.ins C dx fs)) (cl:Cls K C) (ha:PySem.W.findIn K (.ref C) "__class__"=some (some (.builtin "object.__class__")))
     (hn:PySem.W.specialIn K (.builtin "object.__class__") "__get__"=some (some (.builtin "getset_descriptor.__get__"))) (htk:PySem.W.takesIn K (.builtin "object.__class__")=some true)
     (hm:PySem.W.mroIn K C (.type "object")=some true):qhh K H (.ref a) (.ref C)
theorem qxn {x:V} {u t:Value} (I:Inv X pins σ H s) (rx:RelV x u) (ty:qhh X.K H x t) (e:PySem.W.kitOne X.K t c=some b) (h:∀ tk,Q (.bool b) { s with toks:=tk }) :
   wpAny (model X.prog X.w) A (call (.builtin "isinstance") [u,c]) Q E s:=by
 cases ty with
 | non=>cases (show u=Value.none from rx);exact PySem.W.kia_one PySem.W.kitx_none I.kIn True.intro e (fun z=>nomatch z) h
 | bl y=>cases (show u=Value.bool y from rx);exact PySem.W.kia_one PySem.W.kitx_bool I.kIn True.intro e (fun z=>nomatch z) h
 | int i=>obtain ⟨t,q⟩:=(show ∃ t,u=Value.int i t from rx);cases q;exact PySem.W.kia_one PySem.W.kitx_int I.kIn True.intro e (fun z=>nomatch z) h
 | str y=>obtain ⟨t,q⟩:=(show ∃ t,u=Value.str y t from rx);cases q;exact PySem.W.kia_one PySem.W.kitx_str I.kIn True.intro e (fun z=>nomatch z) h
 | flt y=>obtain ⟨t,q⟩:=(show ∃ t,u=Value.float y t from rx);cases q;exact PySem.W.kia_one PySem.W.kitx_float I.kIn True.intro e (fun z=>nomatch z) h
 | @lst a xs ea =>
   cases (show u=Value.ref a from rx)
   obtain ⟨_,_,n,_,h1⟩:=(show qau X.prog X.w H s.heap a (.lst xs) from I.hok a _ ea)
   exact PySem.W.kia_one PySem.W.kitx_list I.kIn ⟨_,h1,rfl⟩ e (fun z=>nomatch z) h
 | @frz a ob xs ea =>
   cases (show u=Value.ref a from rx)
   obtain ⟨_,_,_,n,_,h1⟩:=(show qau X.prog X.w H s.heap a (.frz ob (.lst xs)) from I.hok a _ ea)
   exact PySem.W.kia_one PySem.W.kitx_list I.kIn ⟨_,h1,rfl⟩ e (fun z=>nomatch z) h
 | @tup a xs ea =>
   cases (show u=Value.ref a from rx)
   obtain ⟨_,_,_,p⟩:=(show qau X.prog X.w H s.heap a (.tup xs) from I.hok a _ ea)
   obtain ⟨o,h1,h2,_⟩:=p
   exact PySem.W.kia_one PySem.W.kitx_tuple I.kIn ⟨o,h1,h2⟩ e (fun z=>nomatch z) h
 | @dK a kvs ea =>
   cases (show u=Value.ref a from rx)
   obtain ⟨_,_,vs,_,p⟩:=(show qau X.prog X.w H s.heap a (.dK kvs) from I.hok a _ ea)
   obtain ⟨o,es,ep,h1,h2,_⟩:=p
   exact PySem.W.kia_one PySem.W.kitx_dict I.kIn ⟨o,h1,h2.1⟩ e (fun z=>nomatch z) h
 | @dT a kvs ea =>
   cases (show u=Value.ref a from rx)
   obtain ⟨_,_,xs,_,o,es,ep,h1,h2,_⟩:=(show qau X.prog X.w H s.heap a (.dT kvs) from I.hok a _ ea)
   exact PySem.W.kia_one PySem.W.kitx_dict I.kIn ⟨o,h1,h2.1⟩ e (fun z=>nomatch z) h
 | @ins a C dx fs ea cl ha hn htk hm =>
   cases (show u=Value.ref a from rx)
   obtain ⟨mA,O,_⟩:=q2p I.hok ea
   obtain ⟨od,J,_⟩:=O.look
   exact PySem.W.kia_one (PySem.W.kitx_own (cl.get _) cl.hd ha hn htk hm) I.kIn J e (fun z=>nomatch z) h
end
structure qcy (k:Nat) (A:Around):Prop where
 hd:A.handled=none
 dp:A.depth+3 * k+5 < recursionLimit
 un:A.units+16 * k+200 < cLine
theorem qcy.mono {j k:Nat} {A:Around} (r:qcy k A) (h:j≤k):qcy j A:=⟨r.hd,by have:=r.dp;omega,by have:=r.un;omega⟩
theorem qcy.deeper {k:Nat} {A:Around} (r:qcy (k+1) A) (env:Env):qcy k (A.deeper env) :=
 ⟨r.hd,by have:=r.dp;show A.depth+1+3 * k+5 < _;omega,by have:=r.un;show A.units+3+16 * k+200 < _;omega⟩
theorem qcy.depth {k:Nat} {A:Around} (r:qcy k A):A.depth < recursionLimit:=by have:=r.dp;omega
theorem qcy.units {k:Nat} {A:Around} (r:qcy k A):A.units+64 < cLine:=by have:=r.un;omega
noncomputable def tNil:TA:=fun _ H Q=>Q [] H
noncomputable def qaad (ta:TE) (tr:TA):TA:=fun σ H Q=>ta σ H fun x H1=>tr σ H1 fun xs H2=>Q (x::xs) H2
section
variable {X:Cx} {e:Expr} {es:List Expr} {te:TE} {t:TA} {pos:Pos}
theorem qis:PA X [] tNil:=fun _ _ _ _ H Q I h=>Calls.spliced_nil ⟨[],H,I,.nil,h⟩
theorem qcz (ha:PE X e te) (hr:PA X es t) (hs:starEach (e::es) X.env=(false,eval e X.env)::starEach es X.env:=by rfl):PA X (e::es) (qaad te t):=by
 intro pos pins s σ H Q I h
 rw[hs]
 show wpAny _ _ (spliced ((false,eval e X.env)::backTo pos (starEach es X.env))) _ _ s
 refine Calls.spliced_cons (thn (ha pins s σ H _ I h) fun u s1 ⟨x,H1,I1,r1,q1⟩=> ?_)
 exact thn (hr pos pins s1 σ H1 _ I1 q1) fun us s2 ⟨xs,H2,I2,r2,q2⟩=>⟨x::xs,H2,I2,.cons r1 r2,q2⟩
noncomputable def tTup (t:TA):TE:=fun σ H Q=>t σ H fun xs H1=>xs.length≤sizeLine∧∀ p,H1 p=none→Q (.ref p) (upd H1 p (.tup xs))
noncomputable def tLst (t:TA):TE:=fun σ H Q=>t σ H fun xs H1=>xs.length≤sizeLine∧∀ p,H1 p=none→Q (.ref p) (upd H1 p (.lst xs))
theorem q6i {x1} (h:PA X es t):PE X (.Tuple es x1 pos) (tTup t):=by
 intro pins s σ H Q I hq
 refine wpAny_Tuple_spliced (thn (h pos pins s σ H _ I hq) fun us s1 ⟨xs,H1,I1,r,z,q⟩=>⟨by rw[← r.length];exact z,?_⟩)
 have hf:H1 s1.heap.objs.size=none:=I1.hok.fresh (Nat.le_refl _)
 refine⟨.ref s1.heap.objs.size,upd H1 s1.heap.objs.size (.tup xs),I1.laid (t':=s1.toks) (fun b u e=>Heap.get?_push_of_some _ e) (Nat.le_refl _) ?_,rfl,q _ hf⟩
 exact⟨z,us,r,⟨_,Heap.get?_push_size _ rfl,rfl,_,rfl⟩⟩
theorem qy8 (h:PA X es t):PE X (.List es pos) (tLst t):=by
 intro pins s σ H Q I hq
 refine wpAny_List_spliced (thn (h pos pins s σ H _ I hq) fun us s1 ⟨xs,H1,I1,r,z,q⟩=>⟨by rw[← r.length];exact z,?_⟩)
 have hf:H1 s1.heap.objs.size=none:=I1.hok.fresh (Nat.le_refl _)
 refine⟨.ref s1.heap.objs.size,upd H1 s1.heap.objs.size (.lst xs),I1.laid (t':=s1.toks) (fun b u e=>Heap.get?_push_of_some _ e) (Nat.le_refl _) ?_,rfl,q _ hf⟩
 exact⟨z,us,0,r,Heap.get?_push_size _ rfl⟩
end
noncomputable abbrev Sp:=List V→Hp→VK→XK→Prop
noncomputable abbrev CXT:=List Env→Hp→Shared→XK→Value→Shared→Prop
structure q2q (P:Program) (w:World) (K:PySem.W.Frag) (mg:Str→Option Value) (base:Heap) (A:Around) (outer:List Env) (s:Shared) (H:Hp):Prop where
 frames:A.frames=some outer
 mod:Mod K mg base
 bs:∀ b o,base.get? b=some o→s.heap.get? b=some o∧H b=none
 bsz:base.objs.size≤s.heap.objs.size
 funs:s.heap.FunFrames base outer
 frf:∀ b ∈ frs outer,H b=none
 hok:HOk P w H s.heap
 bare:AllBare s.gens
noncomputable def CE (outer:List Env) (P:Program) (w:World) (H:Hp) (s:Shared) (Q:VK) (u:Value) (s':Shared):Prop :=
 ∃ v H',s'.os=s.os∧AllBare s'.gens∧Un (frs outer) [] H H' s.heap s'.heap∧HOk P w H' s'.heap∧RelV v u∧Q v H'
noncomputable def CR (CX:CXT) (outer:List Env) (P:Program) (w:World) (H:Hp) (s:Shared) (Q:VK) (E:XK) (r:Result) (s':Shared):Prop :=
 match r with
 | .ok (.ret u)=>CE outer P w H s Q u s'
 | .ok _=>False
 | .error e=>CX outer H s E e s'
structure qek (P:Program) (w:World) (K:PySem.W.Frag) (mg:Str→Option Value) (base:Heap) (CX:CXT) (k:Nat) (f:Addr) (fd:FuncData) (ps:List Str) (sp:Sp):Prop where
 len:∀ vs H Q E,sp vs H Q E→vs.length=ps.length
 run:∀ (A:Around) (outer:List Env) (s:Shared) (H:Hp) (args:Args) (us:List Value) (vs:List V) (Q:VK) (E:XK),qcy k A→q2q P w K mg base A outer s H→BindsTo s fd args (ps.zip us)→Vals vs us→sp vs H Q E →
   codeAny (model P w) A (.call (.ref f) args) (CR CX outer P w H s Q E) s
theorem qek.mono {P:Program} {w:World} {K:PySem.W.Frag} {mg:Str→Option Value} {base:Heap} {CX:CXT} {j k:Nat} {f:Addr} {fd:FuncData} {ps:List Str} {sp:Sp} (F:qek P w K mg base CX j f fd ps sp) (h:j≤k) :
   qek P w K mg base CX k f fd ps sp:=⟨F.len,fun A outer s H args us vs Q E hr=>F.run A outer s H args us vs Q E (hr.mono h)⟩
section
variable {X:Cx} {pins:List (Addr × Obj)} {σ:St} {H:Hp} {s s':Shared}
theorem Inv.env0 (I:Inv X pins σ H s):q2q X.prog X.w X.K X.mg X.base X.A X.stack s H :=
 ⟨I.ok.frames,I.ok.mod,I.bs,Nat.le_trans I.ok.bsz I.sz,I.stack,I.stkFree,I.hok,I.bare⟩
theorem Inv.after {Q:VK} {u:Value} (I:Inv X pins σ H s) (h:CE X.stack X.prog X.w H s Q u s'):EP X pins σ Q u s':=by
 obtain ⟨v,H',os,bare,un,hok,r,q⟩:=h
 obtain ⟨hh,g,d,t,os'⟩:=s'
 obtain rfl:os'=s.os:=os
 exact⟨v,H',I.call (h':=hh) (g':=g) (d':=d) (t':=t) (ch:=[]) un hok bare (fun b z=>absurd z (by simp)),r,q⟩
end
noncomputable def qy9 (sp:Sp) (dvs:List V) (E:XK) (t:TA):TE:=fun σ H Q=>t σ H fun vs H1=>sp (vs++dvs) H1 Q E
noncomputable def Binds (K:PySem.W.Frag) (fd:FuncData) (ps:List Str) (ds:List Value):Prop :=
 ∀ (s:Shared) (us:List Value),K.In s.heap→(us++ds).length=ps.length→BindsTo s fd ⟨us,[]⟩ (ps.zip (us++ds))
theorem Binds.all {K:PySem.W.Frag} {fd:FuncData} {ps:List Str} (h:∀ us:List Value,us.length=ps.length→bindArgs fd ⟨us,[]⟩=pure (ps.zip us)):Binds K fd ps []:=fun s us _ hl=>by
 rw[List.append_nil]at hl ⊢
 exact .of_eq (h us hl)
noncomputable def Passes (CX:CXT) (X:Cx) (E:XK):Prop:=∀ (pins:List (Addr × Obj)) (σ:St) (H:Hp) (s:Shared) (e:Value) (s':Shared),Inv X pins σ H s→CX X.stack H s E e s'→X.xe e s'
section
variable {X:Cx} {CX:CXT} {k:Nat} {f C:Addr} {fd:FuncData} {ps:List Str} {sp:Sp} {dvs:List V} {ds:List Value} {E:XK} {x m:Str} {p pos apos:Pos} {e o:Expr} {es:List Expr} {ta:TE} {t:TA}
theorem qza {pins:List (Addr × Obj)} {σ:St} {H:Hp} {s:Shared} {Q:VK} {us:List Value} {vs:List V} (F:qek X.prog X.w X.K X.mg X.base CX k f fd ps sp) (hr:qcy k X.A) (hb:Binds X.K fd ps ds) (hd:Vals dvs ds) (hx:Passes CX X E)
   (I:Inv X pins σ H s) (r:Vals vs us) (h:sp (vs++dvs) H Q E):wpAny (model X.prog X.w) X.A (call (.ref f) us) (EP X pins σ Q) X.xe s:=by
 have r2:Vals (vs++dvs) (us++ds):=r.append hd
 have hl:(us++ds).length=ps.length:=by rw[← r2.length];exact F.len _ _ _ _ h
 refine wpAny_call (codeAny_mono (F.run X.A X.stack s H ⟨us,[]⟩ (us++ds) (vs++dvs) Q E hr I.env0 (hb s us I.kIn hl) r2 h) fun r s' hq=> ?_)
 cases r with
 | error e=>exact hx pins σ H s e s' I hq
 | ok fl =>
   cases fl with
   | ret u=>exact I.after hq
   | next=>exact False.elim hq
   | brk=>exact False.elim hq
   | cont=>exact False.elim hq
theorem qv4 (F:qek X.prog X.w X.K X.mg X.base CX k f fd ps sp) (hr:qcy k X.A) (hg:Gl X x) (hm:X.mg x=some (.ref f)) (hk:PySem.W.keepIn X.K (.ref f)=true) (hb:Binds X.K fd ps ds) (hd:Vals dvs ds) (hx:Passes CX X E)
   (ha:PA X (e::es) t) (hdb:(x==("__debug__":Str))=false:=by decide) (he:starEach (e::es) X.env=(false,eval e X.env)::starEach es X.env:=by rfl) (hpl:(backTo pos (starEach es X.env)).any (·.1)=false:=by rfl) :
   PE X (.Call (.Name x p) (e::es) [] pos) (qy9 sp dvs E t):=by
 intro pins s σ H Q I h
 refine wpAny_Call_Name_kw (qvz I hg hm ?_ hdb)
 refine PySem.W.callWith_K (h₀:=X.base) I.ok.mod.kin hk (thn (ha pos pins s σ H _ I h) fun us s1 ⟨vs,H1,I1,r,q⟩=>⟨I1.kIn,?_⟩) he hpl
 exact qza F hr hb hd hx I1 r q
theorem qzb (F:qek X.prog X.w X.K X.mg X.base CX k f fd ps sp) (hr:qcy k X.A) (hg:Gl X x) (hm:X.mg x=some (.ref f)) (hk:PySem.W.keepIn X.K (.ref f)=true) (hb:Binds X.K fd ps ds) (hd:Vals dvs ds) (hx:Passes CX X E)
   (hdb:(x==("__debug__":Str))=false:=by decide):PE X (.Call (.Name x p) [] [] pos) (qy9 sp dvs E tNil):=by
 intro pins s σ H Q I h
 refine wpAny_Call_Name_kw (qvz I hg hm ?_ hdb)
 exact PySem.W.callWith_K0 I.kIn hk (qza (us:=[]) F hr hb hd hx I .nil h)
end
section
variable {X:Cx} {CX:CXT} {k:Nat} {f C:Addr} {fd:FuncData} {ps ks:List Str} {sp:Sp} {E:XK} {x m:Str} {p pos apos kpos:Pos} {e o:Expr} {es:List Expr} {kws:List Keyword} {te ta:TE} {t tk:TA} {nm:Option Str}
variable {g:List Value→List Value→List Value} {gV:List V→List V→List V}
end
structure qc0 (N P:List Str) (sc:Scope):Prop where
 kind:sc.kind=.function
 co:sc.isCoroutine=false
 gen:sc.isGenerator=false
 nd:N.Nodup
 pre:N.take P.length=P
 par:∀ x ∈ P,sc.names.lookup x=some .local∨sc.names.lookup x=some .cell
 nofree:∀ y ∈ sc.names,y.2 ≠ .free
theorem qot {kindOf:Str→Option NameKind} {x:Str}:∀ {binds:List (Str × Value)} {m:Str→Option Value},(∀ v,(x,v) ∉ binds)→bindL kindOf binds m x=m x
 | [],_,_=>rfl
 | (n,v)::r,m,h=>by
   unfold bindL
   rw[qot fun w hw=>h w (List.mem_cons_of_mem _ hw)]
   split
   · have:x ≠ n:=by rintro rfl;exact h v List.mem_cons_self
     simp [this]
   · rfl
theorem qou {kindOf:Str→Option NameKind} {x:Str}:∀ {binds:List (Str × Value)} {m:Str→Option Value},(∀ v,(x,v) ∉ binds)→bindC kindOf binds m x=m x
 | [],_,_=>rfl
 | (n,v)::r,m,h=>by
   unfold bindC
   rw[qou fun w hw=>h w (List.mem_cons_of_mem _ hw)]
   split
   · rfl
   · have:x ≠ n:=by rintro rfl;exact h v List.mem_cons_self
     simp [this]
theorem qov {kindOf:Str→Option NameKind} {x:Str} {v:Value}:∀ {P:List Str} {vs:List Value} {i:Nat} {m:Str→Option Value},P.Nodup→P[i]? =some x→vs[i]? =some v→kindOf x=some .local →
   bindL kindOf (P.zip vs) m x=some v
 | [],_,_,_,_,h,_,_=>by simp at h
 | _::_,[],_,_,_,_,h,_=>by simp at h
 | p::P,w::vs,0,m,nd,h1,h2,hk=>by
   simp at h1 h2;subst h1;subst h2
   show bindL kindOf ((p,w)::P.zip vs) m p=_
   unfold bindL
   rw[qot fun v hv=>(List.nodup_cons.mp nd).1 (List.of_mem_zip hv).1,if_pos hk]
   simp
 | p::P,w::vs,i+1,m,nd,h1,h2,hk=>by
   show bindL kindOf ((p,w)::P.zip vs) m x=_
   unfold bindL
   exact qov (i:=i) (List.nodup_cons.mp nd).2 (by simpa using h1) (by simpa using h2) hk
theorem qow {kindOf:Str→Option NameKind} {x:Str} {v:Value}:∀ {P:List Str} {vs:List Value} {i:Nat} {m:Str→Option Value},P.Nodup→P[i]? =some x→vs[i]? =some v→kindOf x ≠ some .local →
   bindC kindOf (P.zip vs) m x=some v
 | [],_,_,_,_,h,_,_=>by simp at h
 | _::_,[],_,_,_,_,h,_=>by simp at h
 | p::P,w::vs,0,m,nd,h1,h2,hk=>by
   simp at h1 h2;subst h1;subst h2
   show bindC kindOf ((p,w)::P.zip vs) m p=_
   unfold bindC
   rw[qou fun v hv=>(List.nodup_cons.mp nd).1 (List.of_mem_zip hv).1,if_neg hk]
   simp
 | p::P,w::vs,i+1,m,nd,h1,h2,hk=>by
   show bindC kindOf ((p,w)::P.zip vs) m x=_
   unfold bindC
   exact qow (i:=i) (List.nodup_cons.mp nd).2 (by simpa using h1) (by simpa using h2) hk
noncomputable def start (N:List Str) (vs:List V):St:=vs.map some++List.replicate (N.length - vs.length) none
noncomputable def qno (CX:CXT) (P:Program) (w:World) (K:PySem.W.Frag) (mg:Str→Option Value) (base:Heap) (N:List Str) (qual:Str) (scope:Scope) (f:Addr) (cd:Value) (A:Around) (outer:List Env) (s:Shared) (H:Hp) (E:XK):Cx where
 prog:=P
 w:=w
 K:=K
 mg:=mg
 base:=base
 A:=A.deeper (envOfC qual scope s.heap.objs.size f cd)
 N:=N
 s₀:=s
 H₀:=H
 env:=envOfC qual scope s.heap.objs.size f cd
 outer:=outer
 stack:=envOfC qual scope s.heap.objs.size f cd::outer
 ex:=[]
 calm:=true
 fn:=fun _=>true
 pn:=[]
 xe:=fun e s'=>wpAny (model P w) (A.deeper (envOfC qual scope s.heap.objs.size f cd)) (leaving (envOfC qual scope s.heap.objs.size f cd) e) (fun _ s''=>CX outer H s E e s'') (fun e' s''=>CX outer H s E e' s'') s'
theorem qr3 {sc:Scope} {n:Nat} {x:Str} (h:sc.names.lookup x=some .cell):∃ c,(cellsFrom n sc.names []).lookup x=some c:=by
 have q:=PySem.W.cellsFrom_some sc.names n [] (.inl h)
 exact Option.isSome_iff_exists.mp q
theorem qxo {CX:CXT} {P:Program} {w:World} {K:PySem.W.Frag} {mg:Str→Option Value} {base:Heap} {N ps:List Str} {qual:Str} {scope:Scope} {f:Addr} {cd:Value} {A:Around} {outer:List Env} {s s1:Shared} {H:Hp} {E:XK} {us:List Value} {vs:List V}
   (S:qc0 N ps scope) (hd:A.handled=none) (e0:q2q P w K mg base A outer s H) (hl:vs.length=ps.length) (r:Vals vs us)
   (x:InCallC s s.heap.objs.size (bindL (envOfC qual scope s.heap.objs.size f cd).kindOf (ps.zip us) fun _=>none) (cellsFrom (s.heap.objs.size+1) scope.names []) (bindC (envOfC qual scope s.heap.objs.size f cd).kindOf (ps.zip us) fun _=>none) s1) :
   Inv (qno CX P w K mg base N qual scope f cd A outer s H E) [] (start N vs) H s1:=by
 have hpl:ps.length≤N.length:=by have:=congrArg List.length S.pre;rw[List.length_take]at this;omega
 obtain ⟨h1,tk,rfl,hk⟩:=x.done
 have noA:∀ b:Addr,b ∉ (qno CX P w K mg base N qual scope f cd A outer s H E).ex:=fun b z=>absurd (show b ∈ ([]:List Addr) from z) (by simp)
 refine⟨⟨e0.mod,S.kind,rfl,rfl,Nat.le_refl _,fun y z c h1 h2=> ?_,fun y hy=> ?_,fun y c _ h=> ?_,fun _=>hd,Around.frames_deeper e0.frames,.inr ⟨rfl,rfl⟩,fun b z=>absurd z (noA b),e0.bs,e0.bsz,fun b _ _=>noA b,fun b z=>absurd z (noA b),e0.funs,e0.frf⟩,
   rfl,e0.bare,Un.kept hk,⟨_,x.toInCall.ns,fun i y v h1 h2 h3=> ?_⟩,fun y c h=>⟨_,x.cell y c h⟩,e0.hok.fresh (Nat.le_refl _),fun y c h=> ?_,fun p hp=>absurd (show p ∈ ([]:List (Addr × Obj)) from hp) (by simp),e0.hok.kept hk,?_⟩
 · exact name_of_addr x.apart (PySem.mem_of_lookup h1) (PySem.mem_of_lookup h2)
 · have hy:scope.names.lookup y=some .cell∨scope.names.lookup y=some .free:=hy
   rcases hy with hy | hy
   · exact qr3 hy
   · exact absurd rfl (S.nofree _ (PySem.mem_of_lookup hy))
 · exact Nat.le_of_lt (x.above y c (PySem.mem_of_lookup h))
 · have hi:i < vs.length:=by
     unfold start at h2
     by_cases hi:i < vs.length
     · exact hi
     · rw[List.getElem?_append_right (by simpa using hi)]at h2
       rw[List.getElem?_replicate]at h2
       split at h2 <;> cases h2
   have ha:vs[i]? =some v:=by
     unfold start at h2
     rw[List.getElem?_append_left (by simpa using hi),List.getElem?_map]at h2
     cases e:vs[i]? with
     | none=>rw[e]at h2;cases h2
     | some a=>rw[e]at h2;cases h2;rfl
   obtain ⟨u,hu,rv⟩:=r.get ha
   have hp:ps[i]? =some y:=by
     rw[← S.pre,List.getElem?_take_of_lt (by omega)];exact h1
   have ndP:ps.Nodup:=by rw[← S.pre];exact S.nd.sublist (List.take_sublist _ _)
   refine⟨u,rv,?_⟩
   rcases S.par y (List.mem_of_getElem? hp)with k | k
   · exact .inl ⟨k,qov ndP hp hu k⟩
   · obtain ⟨c,e⟩:=qr3 (n:=s.heap.objs.size+1) k
     refine .inr ⟨.inl k,c,e,?_⟩
     have q:=x.cell y c e
     rw[qow ndP hp hu (by show scope.names.lookup y ≠ _;rw[k];decide)]at q
     exact q
 · exact e0.hok.fresh (Nat.le_of_lt (x.above y c (PySem.mem_of_lookup h)))
 · unfold start
   show _=N.length
   rw[List.length_append,List.length_map,List.length_replicate]
   omega
theorem qaae {CX:CXT} {P:Program} {w:World} {K:PySem.W.Frag} {mg:Str→Option Value} {base:Heap} {k:Nat} {f:Addr} {name qual:Str} {params:Arguments} {body:List Stmt} {scope:Scope} {dV kV doc pm cdv ct oc:Value} {an od:Option Addr}
   {osl:Array (Option Value)} {N ps:List Str} {sp:Sp} (lk:K.lookup f=some ⟨oc,od,.func (PySem.W.fnOf name qual params body scope dV kV doc pm an cdv ct),osl⟩) (hcd:PySem.W.codeIn K cdv qual=true) (S:qc0 N ps scope)
   (len:∀ vs H Q E,sp vs H Q E→vs.length=ps.length)
   (hbody:∀ (A:Around) (outer:List Env) (s:Shared) (H:Hp) (vs:List V) (Q:VK) (E:XK),qcy k (A.deeper (envOfC qual scope s.heap.objs.size f cdv))→sp vs H Q E →
     ∃ t,PSs (qno CX P w K mg base N qual scope f cdv A outer s H E) body t∧t { nx:=fun _ H'=>Q .non H',rt:=Q } (start N vs) H) :
   qek P w K mg base CX (k+1) f (PySem.W.fnOf name qual params body scope dV kV doc pm an cdv ct) ps sp:=by
 refine⟨len,fun A outer s H args us vs Q E hr e0 hb r hsp=> ?_⟩
 have hl:=len _ _ _ _ hsp
 have KX:K.In s.heap:=e0.mod.kin.keeps fun b o e=>(e0.bs b o e).1
 have lim:s.heap.NoLimit:=e0.mod.nolimit.keeps fun b o e=>(e0.bs b o e).1
 have hkind:∀ y ∈ ps.zip us,scope.names.lookup y.1=some .local∨(scope.names.lookup y.1=some .cell∧((cellsFrom (s.heap.objs.size+1) scope.names []).lookup y.1).isSome=true):=fun ⟨n,v⟩ hy=>by
   rcases S.par n (List.of_mem_zip hy).1 with q | q
   · exact .inl q
   · exact .inr ⟨q,PySem.W.cellsFrom_some _ _ _ (.inl q)⟩
 refine codeAny_call_function hr.depth (KX _ _ lk) rfl S.co S.gen rfl (PySem.W.codeRec_of KX hcd) (hb _ _ _ _ ?_)
 refine wpAny_newFunctionEnv_cells S.kind hkind fun env he s1 x=> ?_
 subst he
 refine⟨lim.keeps x.toInCall.keep,codeAny_func ?_⟩
 obtain ⟨t,ht,hq⟩:=hbody A outer s H vs Q E (hr.deeper _) hsp
 have I:Inv (qno CX P w K mg base N qual scope f cdv A outer s H E) [] (start N vs) H s1:=qxo S hr.hd e0 hl r x
 refine wpAny_mono (ht [] s1 (start N vs) H _ I hq) (fun fl s' hs=> ?_) fun e s' hs=>hs
 have fin:∀ {σ':St} {H':Hp} {v:V} {u:Value},Inv (qno CX P w K mg base N qual scope f cdv A outer s H E) [] σ' H' s'→RelV v u→Q v H'→CE outer P w H s Q u s' :=
   fun {σ' H' v u} J rv q=>⟨v,H',J.os,J.bare,J.base,J.hok,rv,q⟩
 cases fl with
 | ret u =>
   obtain ⟨v,σ',H',J,rv,q⟩:=hs
   exact fin J rv q
 | next =>
   obtain ⟨σ',H',J,q⟩:=hs
   exact fin (v:=V.non) (u:=Value.none) J rfl q
 | brk =>
   obtain ⟨_,_,_,q⟩:=hs
   exact False.elim q
 | cont =>
   obtain ⟨_,_,_,q⟩:=hs
   exact False.elim q
section
variable {X:Cx} {x:Str} {p pos:Pos} {e:Expr} {es:List Expr} {t:TA} {id T:String} {r:List V→Hp→VK→Prop}
noncomputable def tCB (r:List V→Hp→VK→Prop) (t:TA):TE:=fun σ H Q=>t σ H fun vs H1=>r vs H1 Q
theorem qr4 (hc:qal X (.builtin id) r) (hg:Gl X x) (hm:X.mg x=none) (hv:bootBuiltins x=some (.builtin id)) (ha:PA X (e::es) t) (hn:x ≠ "__name__":=by decide) (hdb:(x==("__debug__":Str))=false:=by decide)
   (he:starEach (e::es) X.env=(false,eval e X.env)::starEach es X.env:=by rfl) (hpl:(backTo pos (starEach es X.env)).any (·.1)=false:=by rfl):PE X (.Call (.Name x p) (e::es) [] pos) (tCB r t):=by
 intro pins s σ H Q I h
 refine wpAny_Call_Name_kw (qgh I hg hm hv ?_ hn hdb)
 exact PyProof.Rows.callWith_builtin1 (thn (ha pos pins s σ H _ I h) fun us s1 ⟨vs,H1,I1,r1,q1⟩=>hc pins s1 σ H1 vs us Q I1 r1 q1) he hpl
theorem qit (hc:qal X (.type T) r) (hg:Gl X x) (hm:X.mg x=none) (hv:bootBuiltins x=some (.type T)) (ha:PA X (e::es) t) (hn:x ≠ "__name__":=by decide) (hdb:(x==("__debug__":Str))=false:=by decide)
   (he:starEach (e::es) X.env=(false,eval e X.env)::starEach es X.env:=by rfl) (hpl:(backTo pos (starEach es X.env)).any (·.1)=false:=by rfl):PE X (.Call (.Name x p) (e::es) [] pos) (tCB r t):=by
 intro pins s σ H Q I h
 refine wpAny_Call_Name_kw (qgh I hg hm hv ?_ hn hdb)
 exact PyProof.Rows.callWith_type1 (thn (ha pos pins s σ H _ I h) fun us s1 ⟨vs,H1,I1,r1,q1⟩=>hc pins s1 σ H1 vs us Q I1 r1 q1) he hpl
end
end L2
namespace HT
open PySem PyProof.Rows
section
open PySem.SeqAt
open PySem.AutoSeq1 (wpAny_loadPart')
open PySem.MeetsSeq PySem.MeetsSeq2 PySem.MeetsSeq3
end
section
variable {prog:Program} {w:World} {A:Around} {E:Value→Shared→Prop} {s:Shared}
theorem cat_tup {t b:Addr} {vs ws:List Value} {Q:Value→Shared→Prop} (ht:IsTup s.heap t vs.toArray) (hb:IsTup s.heap b ws.toArray) (hv:vs ≠ [])
   (h1:ws=[]→Q (.ref t) s) (h2:ws ≠ []→Q (.ref s.heap.objs.size) { s with heap:=s.heap.push { cls:=.type "tuple",data:=.seq (vs++ws).toArray } })
   (hsz:vs.length+ws.length≤sizeLine):wpAny (model prog w) A (binaryOp .Add (.ref t) (.ref b)) Q E s:=by
 obtain ⟨⟨cls,dd,data,sl⟩,ho,hc,n,hd⟩:=id ht
 obtain ⟨⟨cls2,dd2,data2,sl2⟩,ho2,hc2,n2,hd2⟩:=id hb
 simp only at hc hd hc2 hd2
 subst hc hd hc2 hd2
 have e:vs.toArray++ws.toArray=(vs++ws).toArray:=by simp
 by_cases hw:ws=[]
 · exact concat_meets ⟨_,ho,rfl⟩ ⟨_,ho2,rfl⟩ noFill_tuple_add seq_tuple_add PySem.F.slot_tuple_add PySem.F.entry_tuple_add (PySem.F.args_tuple_add_2 _ _)
     (tuple_addW1 t b vs.toArray ws.toArray n n2 dd dd2 sl sl2 (by simpa using hv) (by simp [hw])) ⟨ho,ho2,h1 hw⟩
 · refine concat_meets ⟨_,ho,rfl⟩ ⟨_,ho2,rfl⟩ noFill_tuple_add seq_tuple_add PySem.F.slot_tuple_add PySem.F.entry_tuple_add (PySem.F.args_tuple_add_2 _ _)
     (tuple_addW2 t b vs.toArray ws.toArray n n2 dd dd2 sl sl2 (by simpa using hv) (by simpa using hw) (by rw[List.size_toArray,List.size_toArray];exact hsz)) ⟨ho,ho2,?_⟩
   rw[e]
   exact h2 hw
noncomputable def sIx (n d:Nat):Option Int→Nat
 | none=>d
 | some v=>if v < 0 then (v+(n:Int)).toNat else min v.toNat n
theorem q6j (n d:Nat) (hd:d≤n) (o:Option Int):sIx n d o≤n:=by
 cases o with
 | none=>exact hd
 | some v =>
   show (if v < 0 then (v+(n:Int)).toNat else min v.toNat n)≤n
   by_cases hv:v < 0
   · rw[if_pos hv];omega
   · rw[if_neg hv];exact Nat.min_le_right _ _
theorem qv5 (v:Int) (n d:Nat):(if v < 0 then max (v+(n:Int)) 0 else min v (n:Int))=((sIx n d (some v):Nat):Int):=by
 show (if v < 0 then max (v+(n:Int)) 0 else min v (n:Int))=(((if v < 0 then (v+(n:Int)).toNat else min v.toNat n):Nat):Int)
 by_cases hv:v < 0
 · simp only [if_pos hv];omega
 · simp only [if_neg hv];omega
theorem qux (lo hi:Option Int) (n:Nat):Builtin.Slice.sliceAdjust lo hi 1 (n:Int)=(((sIx n 0 lo:Nat):Int),((sIx n n hi:Nat):Int)):=by
 have h1:¬ ((1:Int) < 0):=by omega
 unfold Builtin.Slice.sliceAdjust
 simp only [h1,if_false]
 refine Prod.ext ?_ ?_
 · cases lo with
   | none=>rfl
   | some v=>exact qv5 v n 0
 · cases hi with
   | none=>rfl
   | some v=>exact qv5 v n n
theorem quy (i j:Nat):Builtin.Slice.slicePlaces (i:Int) (j:Int) 1=j - i:=by
 unfold Builtin.Slice.slicePlaces
 have h1:(1:Int) > 0:=by omega
 simp only [h1,if_true,Int.ediv_one]
 split <;> omega
theorem qll {v:Value} {o:Option Int} {Q:Option Int→Shared→Prop} (p:IsPart v o) (h:Q o s):wpAny (model prog w) A (Builtin.Slice.slicePartIndex v) Q E s:=by
 cases p with
 | none=>exact slicePart_none h
 | int i t=>exact slicePart_int h
theorem qiu {sl:Addr} {vl vu:Value} {lo hi:Option Int} {n:Nat} {Q:Int × Int × Nat→Shared→Prop} (hs:s.heap.IsSliceOf sl vl vu .none) (pl:IsPart vl lo) (pu:IsPart vu hi)
   (h:Q (((sIx n 0 lo:Nat):Int),1,sIx n n hi - sIx n 0 lo) s):wpAny (model prog w) A (Builtin.Slice.sliceApplied (.ref sl) (pure (n:Int))) Q E s:=by
 obtain ⟨os,hos,hcs,hds⟩:=id hs
 unfold Builtin.Slice.sliceApplied Builtin.Slice.sliceFields
 refine wpAny_bind (wpAny_bind (wpAny_field hos hds (x:=vl) rfl (wpAny_bind (wpAny_field hos hds (x:=vu) rfl (wpAny_bind (wpAny_field hos hds (x:=.none) rfl (wpAny_pure ?_)))))))
 refine wpAny_bind (slicePart_none ?_)
 show wpAny _ _ (if ((1:Int)==0)=true then _ else _) _ _ s
 rw[if_neg (by decide)]
 refine wpAny_bind (qll pl (wpAny_bind (qll pu (wpAny_bind (wpAny_pure ?_)))))
 show wpAny _ _ (match Builtin.Slice.sliceAdjust lo hi 1 (n:Int)with | (lo,hi)=>pure (lo,(1:Int),Builtin.Slice.slicePlaces lo hi 1)) _ _ s
 rw[qux lo hi n]
 show wpAny _ _ (pure (((sIx n 0 lo:Nat):Int),(1:Int),Builtin.Slice.slicePlaces ((sIx n 0 lo:Nat):Int) ((sIx n n hi:Nat):Int) 1)) _ _ s
 rw[quy]
 exact wpAny_pure h
theorem qzc (xs:Array Value) (i k:Nat):((List.range k).filterMap fun (m:Nat)=>xs[((i:Int)+(m:Int) * 1).toNat]?).toArray=((xs.toList.drop i).take k).toArray:=by
 have e:(fun (m:Nat)=>xs[((i:Int)+(m:Int) * 1).toNat]?)=fun m=>xs[i+m]? :=by
   funext m
   have:((i:Int)+(m:Int) * 1).toNat=i+m:=by omega
   rw[this]
 rw[e]
 have:=pick_run xs i k
 rw[List.filterMap_map]at this
 have e2:((fun x=>xs[x]?) ∘ fun x=>i+x)=fun m=>xs[i+m]? :=rfl
 rw[e2]at this
 rw[this]
theorem getItem_tuple_cut {t sl:Addr} {items:Array Value} {vl vu:Value} {lo hi:Option Int} {Q:Value→Shared→Prop} (ht:IsTup s.heap t items) (hs:s.heap.IsSliceOf sl vl vu .none) (pl:IsPart vl lo) (pu:IsPart vu hi)
   (hw:¬ (sIx items.size 0 lo=0∧sIx items.size items.size hi=items.size))
   (h:Q (.ref s.heap.objs.size) { s with heap:=s.heap.push { cls:=.type "tuple",data:=.seq ((items.toList.drop (sIx items.size 0 lo)).take (sIx items.size items.size hi - sIx items.size 0 lo)).toArray } })
   (hsz:items.size≤sizeLine):wpAny (model prog w) A (getItem (.ref t) (.ref sl)) Q E s:=by
 have htake:sizeOk (.seq ((items.toList.drop (sIx items.size 0 lo)).take (sIx items.size items.size hi - sIx items.size 0 lo)).toArray):=by
   show ((items.toList.drop (sIx items.size 0 lo)).take (sIx items.size items.size hi - sIx items.size 0 lo)).toArray.size≤sizeLine
   rw[List.size_toArray,List.length_take,List.length_drop,Array.length_toList]
   omega
 have hj:sIx items.size items.size hi≤items.size:=q6j _ _ (Nat.le_refl _) hi
 obtain ⟨os,hos,hcs,hds⟩:=id hs
 have hTs:s.TypeIs (.ref sl) "slice":=⟨os,hos,hcs⟩
 unfold getItem
 try with_reducible refine wpAny_holding ?_
 first | refine wpAny_bind (wpAny_pure ?_) | skip
 refine wpAny_bind (wpAny_sequenceKey ht.typeIs (by decide) ?_)
 refine wpAny_bind (wpAny_callSpecial?_slot (name:=Str.ofString "__getitem__") ht.typeIs PyProof.Rows.slot_tuple_getitem
   (wpAny_call_entry PyProof.Rows.slot_tuple_getitem ht.typeIs entry_tuple_getitem ?_ (args_tuple_getitem _ _)))
 show wpAny _ _ (Builtin.Tuple.tupleItemsOf (.ref t) >>= _) _ _ s
 refine wpAny_bind (tupleItemsOf_ ht ?_)
 refine wpAny_bind (wpAny_typeOf hTs ?_)
 rw[if_pos (by decide)]
 refine wpAny_bind (qiu hs pl pu ?_)
 have hno:¬ ((((sIx items.size 0 lo:Nat):Int)==0 && (1:Int)==1 && (sIx items.size items.size hi - sIx items.size 0 lo)==items.size)=true):=by
   intro q
   rw[Bool.and_eq_true,Bool.and_eq_true]at q
   have q1:((sIx items.size 0 lo:Nat):Int)=0:=eq_of_beq q.1.1
   have q2:sIx items.size items.size hi - sIx items.size 0 lo=items.size:=eq_of_beq q.2
   exact hw ⟨by omega,by omega⟩
 show wpAny _ _ (if (((sIx items.size 0 lo:Nat):Int)==0 && (1:Int)==1 && (sIx items.size items.size hi - sIx items.size 0 lo)==items.size)=true then _ else _) _ _ s
 rw[if_neg hno,qzc]
 first
   | exact wpAny_bind (m:=Builtin.Tuple.tupleExact _) (wpAny_newObj_type (wpAny_pure ⟨_,rfl,wpAny_pure h⟩) htake)
   | exact wpAny_bind (m:=Builtin.Tuple.tupleExact _) (wpAny_newObj_type (wpAny_bind (wpAny_pure (wpAny_pure ⟨_,rfl,wpAny_pure h⟩))) htake)
   | exact wpAny_bind (wpAny_bind (m:=Builtin.Tuple.tupleExact _) (wpAny_newObj_type (wpAny_pure (wpAny_pure ⟨_,rfl,wpAny_pure h⟩)) htake))
   | exact wpAny_bind (wpAny_bind (m:=Builtin.Tuple.tupleExact _) (wpAny_newObj_type (wpAny_pure ⟨_,rfl,wpAny_pure h⟩) htake))
end
end HT
namespace L2
open PySem PySem.Spec PyProof.Rows
noncomputable abbrev TO:=St→Hp→(Option Int→Hp→Prop)→Prop
noncomputable def PO (X:Cx) (e:Option Expr) (t:TO):Prop :=
 ∀ (pins:List (Addr × Obj)) (s:Shared) (σ:St) (H:Hp) (Q:Option Int→Hp→Prop),Inv X pins σ H s→t σ H Q →
   wpAny (model X.prog X.w) X.A (evalPart e X.env) (fun u s'=>∃ o H',Inv X pins σ H' s'∧IsPart u o∧Q o H') X.xe s
noncomputable def q2r:TO:=fun _ H Q=>Q none H
noncomputable def qaaf (t:TE):TO:=fun σ H Q=>t σ H fun x H1=>∃ i,x=.int i∧Q (some i) H1
section
variable {X:Cx} {e:Expr} {te:TE} {lo hi:Option Expr} {tl th:TO} {pos p2:Pos}
theorem qv6:PO X none q2r:=by
 intro pins s σ H Q I h
 rw[evalPart_none]
 exact wpAny_pure ⟨none,H,I,.none,h⟩
theorem qv7 (h:PE X e te):PO X (some e) (qaaf te):=by
 intro pins s σ H Q I hw
 rw[evalPart_some]
 refine thn (h pins s σ H _ I hw) fun u s1 ⟨x,H1,I1,r1,q1⟩=> ?_
 obtain ⟨i,rfl,q⟩:=q1
 obtain ⟨t,rfl⟩:=r1
 exact⟨some i,H1,I1,.int i t,q⟩
noncomputable def SlR (X:Cx) (r:V→Option Int→Option Int→Hp→VK→Prop):Prop :=
 ∀ (pins:List (Addr × Obj)) (s:Shared) (σ:St) (H:Hp) (x:V) (v vl vu:Value) (lo hi:Option Int) (sl:Addr) (Q:VK),Inv X pins σ H s→RelV x v→s.heap.IsSliceOf sl vl vu .none→IsPart vl lo→IsPart vu hi→r x lo hi H Q →
   ∃ T id,typeLookup (.type T) "__getitem__"=pure (some (.builtin id))∧s.TypeIs v T∧wpAny (model X.prog X.w) X.A (getItem v (.ref sl)) (EP X pins σ Q) X.xe s
theorem SlR.or {r r':V→Option Int→Option Int→Hp→VK→Prop} (h:SlR X r) (h':SlR X r'):SlR X (fun x lo hi H Q=>r x lo hi H Q∨r' x lo hi H Q):=by
 intro pins s σ H x v vl vu lo hi sl Q I rx hs pl pu q
 rcases q with q | q
 · exact h pins s σ H x v vl vu lo hi sl Q I rx hs pl pu q
 · exact h' pins s σ H x v vl vu lo hi sl Q I rx hs pl pu q
noncomputable def tSl (r:V→Option Int→Option Int→Hp→VK→Prop) (te:TE) (tl th:TO):TE:=fun σ H Q=>te σ H fun x H1=>tl σ H1 fun l H2=>th σ H2 fun u H3=>r x l u H3 Q
theorem qr5 {r:V→Option Int→Option Int→Hp→VK→Prop} (hr:SlR X r) (he:PE X e te) (hl:PO X lo tl) (hu:PO X hi th):PE X (.Subscript e (.Slice lo hi none p2) pos) (tSl r te tl th):=by
 intro pins s σ H Q I h
 refine Subscript_ (thn (he pins s σ H _ I h) fun v s1 ⟨x,H1,I1,r1,q1⟩=> ?_)
 refine wpAny_Slice (thn (hl pins s1 σ H1 _ I1 q1) fun vl s2 ⟨l,H2,I2,pl,q2⟩=>thn (hu pins s2 σ H2 _ I2 q2) fun vu s3 ⟨u,H3,I3,pu,q3⟩=> ?_)
 rw[evalPart_none]
 refine wpAny_pure ?_
 have I4:Inv X pins σ H3 { s3 with heap:=s3.heap.push { cls:=.type "slice",data:=.fields #[vl,vu,.none] } }:=I3.kept (t':=s3.toks) fun b ob q=>Heap.get?_push_of_some _ q
 obtain ⟨T,id,hT,ht,hg⟩:=hr pins { s3 with heap:=s3.heap.push { cls:=.type "slice",data:=.fields #[vl,vu,.none] } } σ H3 x v vl vu l u s3.heap.objs.size Q I4 r1 (Heap.IsSliceOf.new ..) pl pu q3
 show wpAny (model X.prog X.w) X.A (subscriptTail e (.Slice lo hi none p2) v (.ref s3.heap.objs.size)) (EP X pins σ Q) X.xe { s3 with heap:=s3.heap.push { cls:=.type "slice",data:=.fields #[vl,vu,.none] } }
 exact tail_any (ops:=[.ref s3.heap.objs.size,v]) ht hT hg (by with_unfolding_all rfl)
noncomputable def qku (xs:List V) (lo hi:Option Int):List V:=(xs.drop (HT.sIx xs.length 0 lo)).take (HT.sIx xs.length xs.length hi - HT.sIx xs.length 0 lo)
theorem qkh (xs:List V) (lo hi:Option Int):(qku xs lo hi).length≤xs.length:=by
 unfold qku
 rw[List.length_take,List.length_drop]
 omega
noncomputable def rSlT (K:PySem.W.Frag):V→Option Int→Option Int→Hp→VK→Prop:=fun x lo hi H Q=>∃ a xs,x=.ref a∧SqT K H a xs ∧
 ¬ (HT.sIx xs.length 0 lo=0∧HT.sIx xs.length xs.length hi=xs.length)∧∀ p,H p=none→Q (.ref p) (upd H p (.tup (qku xs lo hi)))
theorem q6k:SlR X (rSlT X.K):=by
 intro pins s σ H x v vl vu lo hi sl Q I rx hs pl pu h
 obtain ⟨a,xs,rfl,hx,hw,q⟩:=h
 cases rx
 obtain ⟨its,r,ht,hz⟩:=I.tuple hx
 have hlen:its.toArray.size=xs.length:=by rw[List.size_toArray];exact r.length.symm
 refine⟨"tuple",_,PyProof.Rows.slot_tuple_getitem.lookup,ht.typeIs,?_⟩
 refine HT.getItem_tuple_cut ht hs pl pu (by rw[hlen];exact hw) ?_ (by rw[hlen];exact hz)
 rw[hlen]
 refine⟨.ref s.heap.objs.size,_,I.laid (t':=s.toks) (o:=.tup (qku xs lo hi)) (fun b ob q=>Heap.get?_push_of_some _ q) (Nat.le_refl _) ?_,rfl,q _ (I.hok.fresh (Nat.le_refl _))⟩
 exact⟨Nat.le_trans (qkh xs lo hi) hz,_,(r.drop (HT.sIx xs.length 0 lo)).take (HT.sIx xs.length xs.length hi - HT.sIx xs.length 0 lo),IsTup.new _ _⟩
noncomputable def qaag (K:PySem.W.Frag):R2:=fun x y H Q=>∃ a b xs ys,x=.ref a∧y=.ref b∧SqT K H a xs∧SqT K H b ys∧xs ≠ []∧xs.length+ys.length≤sizeLine ∧
 (ys=[]→Q (.ref a) H)∧(ys ≠ []→∀ p,H p=none→Q (.ref p) (upd H p (.tup (xs++ys))))
theorem Vals.nil_iff {xs:List V} {us:List Value} (r:Vals xs us):us=[]↔xs=[]:=by
 cases r with
 | nil=>simp
 | cons _ _=>simp
theorem q2s:OpR X (binaryOp .Add) (qaag X.K):=by
 intro pins s σ H x y v u Q I rx ry h
 obtain ⟨a,b,xs,ys,rfl,rfl,ha,hb,hx,hz,q1,q2⟩:=h
 cases rx
 cases ry
 obtain ⟨its,r1,p1,_⟩:=I.tuple ha
 obtain ⟨its2,r2,p2,_⟩:=I.tuple hb
 refine HT.cat_tup p1 p2 (fun z=>hx (r1.nil_iff.mp z)) (fun z=>⟨.ref a,H,I,rfl,q1 (r2.nil_iff.mp z)⟩) (fun z=> ?_) (by rw[← r1.length,← r2.length];exact hz)
 refine⟨.ref s.heap.objs.size,_,I.laid (t':=s.toks) (o:=.tup (xs++ys)) (fun b ob q=>Heap.get?_push_of_some _ q) (Nat.le_refl _) ?_,rfl,q2 (fun w=>z (r2.nil_iff.mpr w)) _ (I.hok.fresh (Nat.le_refl _))⟩
 exact⟨by rw[List.length_append];exact hz,_,r1.append r2,IsTup.new _ _⟩
end
noncomputable def ixN (n:Nat) (i:Int):Option Nat:=if 0≤i then (if i < n then some i.toNat else none)else if -(n:Int)≤i then some (i+n).toNat else none
noncomputable def atI {α:Type} (xs:List α) (i:Int):Option α:=(ixN xs.length i).bind fun j=>xs[j]?
theorem qv8 {n:Nat} {i:Int} {j:Nat} (h:ixN n i=some j):seqIndex? i n=some j∧j < n∧ -(n:Int)≤i∧i < n:=by
 unfold ixN at h
 by_cases h0:0≤i
 · rw[if_pos h0]at h
   by_cases h1:i < n
   · rw[if_pos h1]at h
     have e:i.toNat=j:=Option.some.inj h
     exact⟨by rw[seqIndex_of h0 h1,e],by omega,by omega,h1⟩
   · rw[if_neg h1]at h;cases h
 · rw[if_neg h0]at h
   by_cases h1: -(n:Int)≤i
   · rw[if_pos h1]at h
     have e:(i+n).toNat=j:=Option.some.inj h
     exact⟨by rw[seqIndex_neg (by omega) h1,e],by omega,h1,by omega⟩
   · rw[if_neg h1]at h;cases h
theorem qk5 {α:Type} {xs:List α} {i:Int} {v:α} (h:atI xs i=some v):∃ j,seqIndex? i xs.length=some j∧xs[j]? =some v∧j < xs.length∧ -(xs.length:Int)≤i∧i < xs.length:=by
 unfold atI at h
 cases e:ixN xs.length i with
 | none=>rw[e]at h;cases h
 | some j =>
   rw[e]at h
   obtain ⟨h1,h2,h3,h4⟩:=qv8 e
   exact⟨j,h1,h,h2,h3,h4⟩
theorem qfy {α:Type} {xs:List α} {j:Nat} {v:α} (h:xs[j]? =some v):atI xs (j:Int)=some v:=by
 have hj:j < xs.length:=(List.getElem?_eq_some_iff.mp h).1
 have e:ixN xs.length (j:Int)=some j:=by
   unfold ixN
   rw[if_pos (by omega),if_pos (by omega)];simp
 unfold atI;rw[e];exact h
noncomputable def qp4 (b:Expr):Prop:=∀ o i,subscripted b false o i=operate [o,i] (getItem o i)
noncomputable def IxR (X:Cx) (r:R2):Prop :=
 ∀ (value slice:Expr) (pins:List (Addr × Obj)) (s:Shared) (σ:St) (H:Hp) (x y:V) (v u:Value) (Q:VK),Inv X pins σ H s→RelV x v→RelV y u→r x y H Q →
   subscripted slice false v u=operate [v,u] (getItem v u)→wpAny (model X.prog X.w) X.A (subscriptTail value slice v u) (EP X pins σ Q) X.xe s
noncomputable def MtR (X:Cx) (id:String) (r:V→List V→Hp→VK→Prop):Prop :=
 ∀ (pins:List (Addr × Obj)) (s:Shared) (σ:St) (H:Hp) (x:V) (xs:List V) (v:Value) (us:List Value) (Q:VK),Inv X pins σ H s→RelV x v→Vals xs us→r x xs H Q →
   wpAny (model X.prog X.w) X.A (call (.builtin id) (v::us)) (EP X pins σ Q) X.xe s
section
variable {X:Cx} {a b:Expr} {ta tb:TE} {pos:Pos}
theorem IxR.or {r r':R2} (h:IxR X r) (h':IxR X r'):IxR X (fun x y H Q=>r x y H Q∨r' x y H Q):=by
 intro value slice pins s σ H x y v u Q I rx ry q hs
 rcases q with q | q
 · exact h value slice pins s σ H x y v u Q I rx ry q hs
 · exact h' value slice pins s σ H x y v u Q I rx ry q hs
theorem qaah {r:R2} (hr:IxR X r) (ha:PE X a ta) (hb:PE X b tb) (hs:qp4 b):PE X (.Subscript a b pos) (tOp r ta tb):=by
 intro pins s σ H Q I h
 exact Subscript_ (q58 ha hb I h fun v u s2 x y H2 I2 rx ry q=>hr a b pins s2 σ H2 x y v u Q I2 rx ry q (hs _ _))
noncomputable def q6l (K:PySem.W.Frag):R2:=fun x y H Q=>∃ p xs i v,x=.ref p∧y=.int i∧SqL K H p xs∧atI xs i=some v∧Q v H
noncomputable def rIxT (K:PySem.W.Frag):R2:=fun x y H Q=>∃ p xs i v,x=.ref p∧y=.int i∧SqT K H p xs∧atI xs i=some v∧Q v H
noncomputable def rIxS:R2:=fun x y H Q=>∃ z i c,x=.str z∧y=.int i∧z.length≤sizeLine∧atI z.cps.toList i=some c∧Q (.str ⟨#[c]⟩) H
theorem q2t:IxR X (q6l X.K):=by
 intro value slice pins s σ H x y v u Q I rx ry h hs
 obtain ⟨p,xs,i,z,rfl,rfl,hq,he,q⟩:=h
 cases rx
 obtain ⟨t,rfl⟩:=ry
 obtain ⟨its,r,pl,hz⟩:=I.list hq
 obtain ⟨j,h1,h2,h3,h4,h5⟩:=qk5 he
 obtain ⟨w,ew,rw'⟩:=r.get h2
 have hl:=r.length
 have hn:=qe9
 have fin:EP X pins σ Q w s:=⟨z,H,I,rw',q⟩
 by_cases h0:0≤i
 · have hj:i.toNat=j:=by
     rw[seqIndex_of h0 h5]at h1
     exact Option.some.inj h1
   exact item_listR pl.isList h0 (by omega) (by rw[hj];simpa using ew) fin hs
 · have hj:(i+(its.toArray.size:Int)).toNat=j:=by
     rw[seqIndex_neg (by omega) h4]at h1
     rw[List.size_toArray,← hl]
     exact Option.some.inj h1
   exact subscriptTail_builtinR (x:=w) pl.isList.typeIs slot_list_getitem.lookup
     (wpAny_getItem_list_neg (Q:=fun r s'=>r=w∧EP X pins σ Q r s') pl.isList (by omega) (by rw[List.size_toArray] <;> omega) (by omega) (by rw[hj];simpa using ew) ⟨rfl,fin⟩) hs
theorem qzd:IxR X (rIxT X.K):=by
 intro value slice pins s σ H x y v u Q I rx ry h hs
 obtain ⟨p,xs,i,z,rfl,rfl,hq,he,q⟩:=h
 cases rx
 obtain ⟨t,rfl⟩:=ry
 obtain ⟨its,r,pl,hz⟩:=I.tuple hq
 obtain ⟨j,h1,h2,h3,h4,h5⟩:=qk5 he
 obtain ⟨w,ew,rw'⟩:=r.get h2
 have hl:=r.length
 have hn:=qe9
 have fin:EP X pins σ Q w s:=⟨z,H,I,rw',q⟩
 exact subscriptTail_builtinR (x:=w) pl.typeIs slot_tuple_getitem.lookup
   (getItem_tuple (j:=j) (Q:=fun r s'=>r=w∧EP X pins σ Q r s') pl (by omega) (by omega) (by rw[List.size_toArray,← hl];exact h1) (by simpa using ew) ⟨rfl,fin⟩) hs
theorem q6m:IxR X rIxS:=by
 intro value slice pins s σ H x y v u Q I rx ry h hs
 obtain ⟨z,i,c,rfl,rfl,hz,he,q⟩:=h
 obtain ⟨t,rfl⟩:=rx
 obtain ⟨t',rfl⟩:=ry
 obtain ⟨j,h1,h2,h3,h4,h5⟩:=qk5 he
 have hl:z.cps.toList.length=z.length:=by simp [Str.length]
 rw[hl]at h1 h4 h5
 have hn:=qe9
 exact tail_any (typeIs_str s z t) slot_str_getitem.lookup (getItem_str (c:=c) (by
   have e1:decide (i < -(2 ^ 63:Int))=false:=decide_eq_false (by omega)
   have e2:decide (i ≥ 2 ^ 63)=false:=decide_eq_false (by omega)
   rw[e1,e2,Bool.or_false]) (by rw[h1];simpa using h2) ⟨.str ⟨#[c]⟩,H,I.tok _,⟨_,rfl⟩,q⟩) hs
theorem quz (its:List Value) (n j:Nat) (u:Value):Obj.mapSeq (·.setIfInBounds j u) { cls:=.type "list",data:=.seq its.toArray n }={ cls:=.type "list",data:=.seq (its.set j u).toArray n }:=by
 simp [Obj.mapSeq]
theorem Inv.lst {pins:List (Addr × Obj)} {σ:St} {H:Hp} {s:Shared} {p:Addr} {xs:List V} (I:Inv X pins σ H s) (h:H p=some (.lst xs)) :
   ∃ (its:List Value) (n:Nat),Vals xs its∧s.heap.get? p=some { cls:=.type "list",data:=.seq its.toArray n }∧xs.length≤sizeLine:=by
 obtain ⟨z,its,n,r,e⟩:=I.hok p _ h
 exact⟨its,n,r,e,z⟩
theorem Inv.lstUpd {pins:List (Addr × Obj)} {σ:St} {H:Hp} {s:Shared} {p:Addr} {xs ys:List V} {its its':List Value} {n n':Nat} {f:Obj→Obj} (I:Inv X pins σ H s) (h:H p=some (.lst xs))
   (ho:s.heap.get? p=some { cls:=.type "list",data:=.seq its.toArray n }) (hf:f { cls:=.type "list",data:=.seq its.toArray n }={ cls:=.type "list",data:=.seq its'.toArray n' }) (r:Vals ys its') (hz:ys.length≤sizeLine) (t:Nat) :
   Inv X pins σ (upd H p (.lst ys)) { s with heap:=s.heap.update p f,toks:=t }:=by
 have e:(s.heap.update p f).get? p=some { cls:=.type "list",data:=.seq its'.toArray n' }:=by
   rw[Heap.get?_update_self f ho (by rw[hf] <;> rfl),hf]
 refine I.write (x:=p) (e:=p) (by rw[h];trivial) (.inl rfl) (fun b u hb q=>(Heap.get?_update_other _ _ (Ne.symm hb)).trans q) ⟨_,e⟩ ?_
 exact⟨hz,its',n',r,e⟩
noncomputable def q40:V→V→V→Hp→(Hp→Prop)→Prop:=fun o i v H Q=>∃ p xs k j,o=.ref p∧i=.int k∧H p=some (.lst xs)∧ixN xs.length k=some j∧Q (upd H p (.lst (xs.set j v)))
theorem set_list:qnn X q40:=by
 intro pins s σ H o i v ov iv u Q I ro ri rv h
 obtain ⟨p,xs,k,j,rfl,rfl,hp,hj,q⟩:=h
 cases ro
 obtain ⟨t,rfl⟩:=ri
 obtain ⟨its,n,r,ho,hz⟩:=I.lst hp
 obtain ⟨h1,h2,h3,h4⟩:=qv8 hj
 have hl:=r.length
 have hn:=qe9
 have I':Inv X pins σ (upd H p (.lst (xs.set j v))) { s with heap:=s.heap.update p (Obj.mapSeq (·.setIfInBounds j u)) } :=
   I.lstUpd hp ho (quz its n j u) (r.set rv j) (by rw[List.length_set];exact hz) s.toks
 by_cases h0:0≤k
 · have hk:k.toNat=j:=by
     rw[seqIndex_of h0 h4]at h1
     exact Option.some.inj h1
   exact PySem.W.ki_setAt ho h0 (by omega) (by rw[List.size_toArray,← hl];exact h4) (by rw[hk];exact⟨_,I',q⟩)
 · have hk:(k+(its.toArray.size:Int)).toNat=j:=by
     rw[seqIndex_neg (by omega) h3]at h1
     rw[List.size_toArray,← hl]
     exact Option.some.inj h1
   exact PySem.W.ki_setBack ho (by omega) (by rw[List.size_toArray,← hl];exact h3) (by omega) (by rw[hk];exact⟨_,I',q⟩)
theorem qp5 (lo hi:Option Int) (n:Nat):(sliceBounds lo hi none n).1=((HT.sIx n 0 lo:Nat):Int)∧(sliceBounds lo hi none n).2.1=((HT.sIx n n hi:Nat):Int)∧(sliceBounds lo hi none n).2.2=1:=by
 refine⟨?_,?_,rfl⟩
 · cases lo with
   | none=>simp [sliceBounds,HT.sIx]
   | some i =>
     simp only [sliceBounds,HT.sIx,Option.getD_none,show (1:Int) > 0 by decide,if_true]
     by_cases h:i < 0
     · simp only [h,if_true] <;> omega
     · simp only [h,if_false] <;> omega
 · cases hi with
   | none=>simp [sliceBounds,HT.sIx]
   | some i =>
     simp only [sliceBounds,HT.sIx,Option.getD_none,show (1:Int) > 0 by decide,if_true]
     by_cases h:i < 0
     · simp only [h,if_true] <;> omega
     · simp only [h,if_false] <;> omega
theorem qnp (its:List Value) (lo hi:Option Int):slicePick its.toArray lo hi none=((its.drop (HT.sIx its.length 0 lo)).take (HT.sIx its.length its.length hi - HT.sIx its.length 0 lo)).toArray:=by
 obtain ⟨h1,h2,h3⟩:=qp5 lo hi its.toArray.size
 unfold slicePick
 rw[h1,h2,h3]
 simp only [sliceRange_one,pick_run,List.size_toArray] <;> rfl
noncomputable def rSlL (K:PySem.W.Frag):V→Option Int→Option Int→Hp→VK→Prop:=fun x lo hi H Q=>∃ a xs,x=.ref a∧SqL K H a xs∧∀ p,H p=none→Q (.ref p) (upd H p (.lst (qku xs lo hi)))
theorem qv9:SlR X (rSlL X.K):=by
 intro pins s σ H x v vl vu lo hi sl Q I rx hs pl pu h
 obtain ⟨a,xs,rfl,hx,q⟩:=h
 cases rx
 obtain ⟨its,r,ht,hz⟩:=I.list hx
 have hlen:=r.length
 refine⟨"list",_,slot_list_getitem.lookup,ht.isList.typeIs,?_⟩
 refine wpAny_getItem_list_slice ht.isList hs pl pu .none (by simp) ?_ (by rw[List.size_toArray] <;> omega)
 rw[qnp,← hlen]
 refine⟨.ref s.heap.objs.size,_,I.laid (t':=s.toks) (o:=.lst (qku xs lo hi)) (fun b ob q=>Heap.get?_push_of_some _ q) (Nat.le_refl _) ?_,rfl,q _ (I.hok.fresh (Nat.le_refl _))⟩
 exact⟨Nat.le_trans (qkh xs lo hi) hz,_,0,(r.drop (HT.sIx xs.length 0 lo)).take (HT.sIx xs.length xs.length hi - HT.sIx xs.length 0 lo),Heap.get?_push_size _ rfl⟩
noncomputable def qox:V→Bool
 | .non=>true
 | .bl _=>true
 | .int _=>true
 | .str _=>true
 | _=>false
noncomputable def eqV:V→V→Bool
 | .non,.non=>true
 | .bl a,.bl b=>a==b
 | .bl a,.int b=>(if a then 1 else 0)==b
 | .int a,.bl b=>a==(if b then 1 else 0)
 | .int a,.int b=>a==b
 | .str a,.str b=>a==b
 | _,_=>false
theorem q6n {A:Around} {s:Shared} {y x:V} {u v:Value} (ry:RelV y u) (rx:RelV x v) (fy:qox y=true) (fx:qox x=true):SeqAt.EqAt A s u v (eqV y x):=by
 cases y with
 | non =>
   cases ry
   cases x with
   | non=>cases rx;exact SeqAt.EqAt.same _
   | bl b=>cases rx;exact SeqAt.EqAt.none_bool b
   | int b=>obtain ⟨t,rfl⟩:=rx;exact SeqAt.EqAt.none_int b t
   | str b=>obtain ⟨t,rfl⟩:=rx;exact SeqAt.EqAt.none_str b t
   | _=>exact absurd (show false=true from fx) Bool.false_ne_true
 | bl a =>
   cases ry
   cases x with
   | non=>cases rx;exact SeqAt.EqAt.bool_none a
   | bl b=>cases rx;exact SeqAt.EqAt.bool_bool a b
   | int b=>obtain ⟨t,rfl⟩:=rx;exact SeqAt.EqAt.bool_int a b t
   | str b=>obtain ⟨t,rfl⟩:=rx;exact SeqAt.EqAt.bool_str a b t
   | _=>exact absurd (show false=true from fx) Bool.false_ne_true
 | int a =>
   obtain ⟨t',rfl⟩:=ry
   cases x with
   | non=>cases rx;exact SeqAt.EqAt.int_none a t'
   | bl b=>cases rx;exact SeqAt.EqAt.int_bool a t' b
   | int b=>obtain ⟨t,rfl⟩:=rx;exact SeqAt.EqAt.int_int a t' b t
   | str b=>obtain ⟨t,rfl⟩:=rx;exact SeqAt.EqAt.int_str a t' b t
   | _=>exact absurd (show false=true from fx) Bool.false_ne_true
 | str a =>
   obtain ⟨t',rfl⟩:=ry
   cases x with
   | non=>cases rx;exact SeqAt.EqAt.str_none a t'
   | bl b=>cases rx;exact SeqAt.EqAt.str_bool a t' b
   | int b=>obtain ⟨t,rfl⟩:=rx;exact SeqAt.EqAt.str_int a t' b t
   | str b=>obtain ⟨t,rfl⟩:=rx;exact SeqAt.EqAt.str_str a t' b t
   | _=>exact absurd (show false=true from fx) Bool.false_ne_true
 | _=>exact absurd (show false=true from fy) Bool.false_ne_true
theorem qp6:qal X (.builtin "len") (fun xs H Q=>∃ p ys,xs=[.ref p]∧(SqL X.K H p ys∨SqT X.K H p ys)∧Q (.int ys.length) H):=by
 intro pins s σ H xs us Q I r h
 obtain ⟨p,ys,rfl,hq,q⟩:=h
 obtain ⟨u,rfl,rx⟩:=vals1 r
 cases rx
 have hn:=qe9
 rcases hq with hq | hq
 · obtain ⟨its,r',pl,hz⟩:=I.list hq
   have hlen:=r'.length
   exact Calls.call_len_list pl.isList (by simp only [List.size_toArray] <;> omega) ⟨.int ys.length,H,I.tok _,⟨s.toks+1,by rw[List.size_toArray,hlen]⟩,q⟩
 · obtain ⟨its,r',pl,hz⟩:=I.tuple hq
   have hlen:=r'.length
   exact len_tuple pl (by simp only [List.size_toArray] <;> omega) ⟨.int ys.length,H,I.tok _,⟨s.toks+1,by rw[List.size_toArray,hlen]⟩,q⟩
theorem qp7:qal X (.builtin "len") (fun xs H Q=>∃ z,xs=[.str z]∧z.length≤sizeLine∧Q (.int z.length) H):=by
 intro pins s σ H xs us Q I r h
 obtain ⟨z,rfl,hz,q⟩:=h
 obtain ⟨u,rfl,t,rfl⟩:=vals1 r
 have hn:=qe9
 exact len_str (by omega) ⟨.int z.length,H,I.tok _,⟨_,rfl⟩,q⟩
theorem qal.or {f:Value} {r r':List V→Hp→VK→Prop} (h:qal X f r) (h':qal X f r'):qal X f (fun xs H Q=>r xs H Q∨r' xs H Q):=by
 intro pins s σ H xs us Q I rs q
 rcases q with q | q
 · exact h pins s σ H xs us Q I rs q
 · exact h' pins s σ H xs us Q I rs q
theorem qhi:qal X (.type "list") (fun xs H Q=>∃ p ys,xs=[.ref p]∧(SqL X.K H p ys∨SqT X.K H p ys)∧∀ l,H l=none→Q (.ref l) (upd H l (.lst ys))):=by
 intro pins s σ H xs us Q I r h
 obtain ⟨p,ys,rfl,hq,q⟩:=h
 obtain ⟨u,rfl,rx⟩:=vals1 r
 cases rx
 have fin:∀ (its:List Value),Vals ys its→ys.length≤sizeLine→∀ (h':Heap) (c':Nat),(∀ b o',s.heap.get? b=some o'→h'.get? b=some o') →
     h'.get? s.heap.objs.size=some { cls:=.type "list",dict:=none,data:=.seq its.toArray c',slots:= #[] }→EP X pins σ Q (.ref s.heap.objs.size) { s with heap:=h' }:=fun its r' hz h' c' kp e =>
   ⟨.ref s.heap.objs.size,_,I.laid (t':=s.toks) kp (Nat.le_refl _) (show qau X.prog X.w _ h' _ (.lst ys) from ⟨hz,its,c',r',e⟩),rfl,q _ (I.hok.fresh (Nat.le_refl _))⟩
 rcases hq with hq | hq
 · obtain ⟨its,r',pl,hz⟩:=I.list hq
   have hlen:=r'.length
   obtain ⟨o,ho,hc,n,hd⟩:=pl.isList
   exact call_list_seq p (.inl rfl) ho hc hd (fun h' c' kp e=>fin its r' hz h' c' kp e) (by simp only [List.size_toArray] <;> omega)
 · obtain ⟨its,r',pl,hz⟩:=I.tuple hq
   have hlen:=r'.length
   obtain ⟨o,ho,hc,n,hd⟩:=pl
   exact call_list_seq p (.inr rfl) ho hc hd (fun h' c' kp e=>fin its r' hz h' c' kp e) (by simp only [List.size_toArray] <;> omega)
theorem qnq:qal X (.type "tuple") (fun xs H Q=>∃ p ys,xs=[.ref p]∧((SqL X.K H p ys∧∀ l,H l=none→Q (.ref l) (upd H l (.tup ys)))∨(SqT X.K H p ys∧Q (.ref p) H))):=by
 intro pins s σ H xs us Q I r h
 obtain ⟨p,ys,rfl,h⟩:=h
 obtain ⟨u,rfl,rx⟩:=vals1 r
 cases rx
 rcases h with ⟨hq,q⟩ | ⟨hq,q⟩
 · obtain ⟨its,r',pl,hz⟩:=I.list hq
   have hlen:=r'.length
   refine call_tuple_list pl.isList (fun h' kp=> ?_) (by simp only [List.size_toArray] <;> omega)
   have I1:Inv X pins σ H { s with heap:=h' }:=I.kept (t':=s.toks) kp
   have I2:Inv X pins σ (upd H h'.objs.size (.tup ys)) { s with heap:=h'.push { cls:=.type "tuple",data:=.seq its.toArray } } :=
     I1.laid (t':=s.toks) (fun b o e=>Heap.get?_push_of_some _ e) (Nat.le_refl _) (show qau X.prog X.w _ _ _ (.tup ys) from ⟨hz,its,r',IsTup.new _ _⟩)
   exact⟨.ref h'.objs.size,_,I2,rfl,q _ (I1.hok.fresh (Nat.le_refl _))⟩
 · obtain ⟨its,r',pl,hz⟩:=I.tuple hq
   exact call_tuple_same pl ⟨.ref p,H,I,rfl,q⟩
noncomputable def tyV (K:PySem.W.Frag) (T:String) (x:V) (H:Hp):Prop:=match x with
 | .str _=>T="str"
 | .int _=>T="int"
 | .ref p=>(T="list"∧∃ xs,SqL K H p xs)∨(T="tuple"∧∃ o,K.lookup p=some o∧o.cls=.type "tuple"∧o.dict=none) ∨
     (T="dict"∧((∃ kvs,H p=some (.dK kvs))∨∃ kvs,H p=some (.dT kvs)))∨(T="set"∧∃ S n,H p=some (.set S n))
 | _=>False
theorem qze {pins:List (Addr × Obj)} {σ:St} {H:Hp} {s:Shared} {T:String} {x:V} {v:Value} (I:Inv X pins σ H s) (r:RelV x v) (ty:tyV X.K T x H) :
   s.TypeIs v T∧∀ a,v=.ref a→∃ ob,s.heap.get? a=some ob∧ob.dict=none:=by
 cases x with
 | str z =>
   obtain ⟨t,rfl⟩:=r
   cases (show T="str" from ty)
   exact⟨typeIs_str s z t,fun _ e=>nomatch e⟩
 | int i =>
   obtain ⟨t,rfl⟩:=r
   cases (show T="int" from ty)
   exact⟨typeIs_int s i t,fun _ e=>nomatch e⟩
 | ref p =>
   cases r
   rcases ty with ⟨rfl,xs,hq⟩ | ⟨rfl,o,hk,hc,hd⟩ | ⟨rfl,hk⟩ | ⟨rfl,S,n,hk⟩
   · obtain ⟨its,_,pl,_⟩:=I.list hq
     refine⟨pl.isList.typeIs,fun a e=> ?_⟩
     cases e
     obtain ⟨o,n,e,c,hd,_⟩:=pl
     exact⟨o,e,hd⟩
   · refine⟨⟨o,I.kIn p o hk,hc⟩,fun a e=> ?_⟩
     cases e
     exact⟨o,I.kIn _ o hk,hd⟩
   · have z:∃ o,s.heap.get? p=some o∧o.ExactDict:=by
       rcases hk with ⟨kvs,hk⟩ | ⟨kvs,hk⟩
       · obtain ⟨_,_,_,_,o,_,_,e,ex,_⟩:=I.hok p _ hk
         exact⟨o,e,ex⟩
       · obtain ⟨_,_,_,_,o,_,_,e,ex,_⟩:=I.hok p _ hk
         exact⟨o,e,ex⟩
     obtain ⟨o,e,ex⟩:=z
     refine⟨⟨o,e,ex.1⟩,fun a e2=> ?_⟩
     cases e2
     exact⟨o,e,ex.2.1⟩
   · obtain ⟨o,_,_,_,e,ex,_⟩:=I.hok p _ hk
     refine⟨⟨o,e,ex.1⟩,fun a e2=> ?_⟩
     cases e2
     exact⟨o,e,ex.2.1⟩
 | _=>exact False.elim ty
noncomputable def tBM0 (K:PySem.W.Frag) (T:String) (r:V→List V→Hp→VK→Prop) (to:TE):TE:=fun σ H Q=>to σ H fun x H1=>tyV K T x H1∧r x [] H1 Q
noncomputable def tBM (K:PySem.W.Frag) (T:String) (r:V→List V→Hp→VK→Prop) (to:TE) (t:TA):TE:=fun σ H Q=>to σ H fun x H1=>tyV K T x H1∧t σ H1 fun xs H2=>r x xs H2 Q
variable {o e:Expr} {es:List Expr} {to:TE} {t:TA} {name:Str} {apos cpos:Pos} {T id:String} {r:V→List V→Hp→VK→Prop}
theorem q6o (pa:PlainAttrs T) (slot:Slot T name id) (hty:typeOf (.builtin id)=pure (.type "method_descriptor")) (hm:MtR X id r) (ho:PE X o to)
   (hbase:attributeBase o name X.env (eval o X.env)=eval o X.env:=by rfl) (hline:(apos.endLine==cpos.line)=true:=by rfl):PE X (.Call (.Attribute o name apos) [] [] cpos) (tBM0 X.K T r to):=by
 intro pins s σ H Q I h
 refine wpAny_Call_method0_late hbase hline (thn (ho pins s σ H _ I h) fun v s1 ⟨x,H1,I1,r1,ty,q1⟩=> ?_)
 obtain ⟨h1,h2⟩:=qze I1 r1 ty
 exact⟨T,id,pa,slot,hty,h1,h2,Calls.callWith_builtin rfl (PySem.evalArgs_none (hm pins s1 σ H1 x [] v [] Q I1 r1 .nil q1))⟩
theorem qaaj (pa:PlainAttrs T) (slot:Slot T name id) (hty:typeOf (.builtin id)=pure (.type "method_descriptor")) (hm:MtR X id r) (ho:PE X o to) (ha:PA X (e::es) t)
   (hbase:attributeBase o name X.env (eval o X.env)=eval o X.env:=by rfl)
   (hfew:((backTo cpos (starEach (e::es) X.env)).all (fun x=> !x.1) && (backToKw cpos (keywordEach [] X.env)).all (fun x=>x.1.isSome)
     && decide ((e::es).length+([]:List Keyword).length+(if ([]:List Keyword).isEmpty then 0 else 1) < 30))=true:=by rfl)
   (hline:(apos.endLine==cpos.line)=true:=by rfl) (hs:starEach (e::es) X.env=(false,eval e X.env)::starEach es X.env:=by rfl) (hplain:(backTo cpos (starEach es X.env)).any (·.1)=false:=by rfl) :
   PE X (.Call (.Attribute o name apos) (e::es) [] cpos) (tBM X.K T r to t):=by
 intro pins s σ H Q I h
 refine wpAny_Call_method_late hbase hfew hline rfl (thn (ho pins s σ H _ I h) fun v s1 ⟨x,H1,I1,r1,ty,q1⟩=> ?_)
 obtain ⟨h1,h2⟩:=qze I1 r1 ty
 refine⟨T,id,pa,slot,hty,h1,h2,?_⟩
 have hA:=ha cpos pins s1 σ H1 _ I1 q1
 rw[hs]at hA ⊢
 refine Calls.callWith_builtin (by show (false || (backTo cpos (starEach es X.env)).any (·.1))=false;rw[hplain] <;> rfl) (Calls.evalArgs_plain ?_)
 exact thn hA fun us s2 ⟨vs,H2,I2,r2,q2⟩=>hm pins s2 σ H2 x vs v us Q I2 r1 r2 q2
end
noncomputable def MtM (X:Cx) (id:String) (r:V→List V→Hp→VK→Prop):Prop :=
 ∀ (pins:List (Addr × Obj)) (s:Shared) (σ:St) (H:Hp) (x:V) (xs:List V) (v:Value) (us:List Value) (Q:VK),Inv X pins σ H s→RelV x v→Vals xs us→r x xs H Q →
   wpAny (model X.prog X.w) X.A (call (.builtin id) (v::us)) (EP X pins σ Q) X.xe s
theorem Vals.one:∀ {x:V} {us:List Value},Vals [x] us→∃ u,us=[u]∧RelV x u
 | _,_,.cons r .nil=>⟨_,rfl,r⟩
theorem Vals.two:∀ {x y:V} {us:List Value},Vals [x,y] us→∃ u v,us=[u,v]∧RelV x u∧RelV y v
 | _,_,_,.cons r (.cons q .nil)=>⟨_,_,rfl,r,q⟩
theorem Vals.zero:∀ {us:List Value},Vals [] us→us=[]
 | _,.nil=>rfl
theorem Vals.dropLast {xs:List V} {us:List Value} (h:Vals xs us):Vals xs.dropLast us.dropLast:=by
 induction h with
 | nil=>exact .nil
 | cons r t ih =>
   cases t with
   | nil=>exact .nil
   | cons q t'=>exact .cons r ih
theorem Vals.rep {xs:List V} {us:List Value} (h:Vals xs us):∀ k:Nat,Vals (List.replicate k xs).flatten (List.replicate k us).flatten
 | 0=>.nil
 | k+1=>by
   rw[List.replicate_succ,List.replicate_succ,List.flatten_cons,List.flatten_cons]
   exact Vals.append h (Vals.rep h k)
theorem qu0 {α:Type} (l:List α):l.eraseIdx (l.length - 1)=l.dropLast:=by
 induction l with
 | nil=>rfl
 | cons a r ih =>
   cases r with
   | nil=>rfl
   | cons b r =>
     have e:(a::b::r).length - 1=((b::r).length - 1)+1:=by
       have h1:(a::b::r).length=r.length+2:=rfl
       have h2:(b::r).length=r.length+1:=rfl
       omega
     rw[e,List.eraseIdx_cons_succ,ih]
     all_goals rfl
theorem foldl_rep (its:List Value):∀ (k:Nat) (acc:List Value),
   List.foldl (fun x1 x2=>x1++x2) acc.toArray (List.replicate k its.toArray)=(acc++(List.replicate k its).flatten).toArray
 | 0,acc=>by simp
 | k +1,acc=>by
   have e:acc.toArray++its.toArray=(acc++its).toArray:=by simp
   have e2:(acc++its)++(List.replicate k its).flatten=acc++(List.replicate (k+1) its).flatten:=by
     rw[List.replicate_succ,List.flatten_cons,List.append_assoc]
   rw[← e2,← foldl_rep its k (acc++its),← e,List.replicate_succ,List.foldl_cons]
section
variable {X:Cx} {pins:List (Addr × Obj)} {σ:St} {H:Hp} {s:Shared} {l b:Addr} {xs ys zs:List V}
theorem Inv.lset {its its':List Value} {n:Nat} {f:Array Value→Array Value} {t':Nat} (I:Inv X pins σ H s) (hH:H l=some (.lst xs))
   (e:s.heap.get? l=some { cls:=.type "list",data:=.seq its.toArray n }) (hf:f its.toArray=its'.toArray) (hv:Vals ys its') (hz:ys.length≤sizeLine) :
   Inv X pins σ (upd H l (.lst ys)) { s with heap:=s.heap.update l (Obj.mapSeq f),toks:=t' }:=by
 have q:=PySem.IsL.update e f
 rw[hf]at q
 refine I.write (x:=l) (e:=l) (by rw[hH];exact trivial) (.inl rfl) (fun b' u hb hu=>(Heap.get?_update_other s.heap (Obj.mapSeq f) (Ne.symm hb)).trans hu) ⟨_,q⟩ ?_
 exact⟨hz,its',_,hv,q⟩
theorem Inv.lnew {its:List Value} {t':Nat} (I:Inv X pins σ H s) (hv:Vals ys its) (hz:ys.length≤sizeLine) :
   Inv X pins σ (upd H s.heap.objs.size (.lst ys)) { s with heap:=s.heap.push { cls:=.type "list",data:=.seq its.toArray },toks:=t' } :=
 I.laid (fun _ _ q=>Heap.get?_push_of_some _ q) (Nat.le_refl _) ⟨hz,its,0,hv,Heap.get?_push_size _ rfl⟩
theorem Inv.fresh (I:Inv X pins σ H s):H s.heap.objs.size=none:=I.hok.fresh (Nat.le_refl _)
theorem Inv.lstM (I:Inv X pins σ H s) (hH:H l=some (.lst xs)):xs.length≤sizeLine∧∃ (its:List Value) (n:Nat),Vals xs its∧xs.length=its.length∧s.heap.get? l=some { cls:=.type "list",data:=.seq its.toArray n }:=by
 obtain ⟨z,its,n,r,e⟩:=I.hok l _ hH
 exact⟨z,its,n,r,r.length,e⟩
theorem qzf {n:Nat} (h:n≤sizeLine):Builtin.List.listTooLong n=false:=by
 unfold Builtin.List.listTooLong
 exact decide_eq_false (by omega)
end
section
variable {X:Cx}
noncomputable def q2u:V→List V→Hp→VK→Prop:=fun x vs H Q=>∃ l xs y,x=.ref l∧vs=[y]∧H l=some (.lst xs)∧xs.length < sizeLine∧Q .non (upd H l (.lst (xs++[y])))
theorem qxp:MtM X "list.append" q2u:=by
 intro pins s σ H x vs v us Q I rx rv h
 obtain ⟨l,xs,y,rfl,rfl,hH,hz,q⟩:=h
 cases rx
 obtain ⟨u,rfl,ru⟩:=rv.one
 obtain ⟨z,its,n,r,hl,e⟩:=I.lstM hH
 refine call_meets F.slot_list_append ⟨_,e,rfl⟩ F.entry_list_append (F.args_list_append_2 _ _) (PySem.list_append l its.toArray n u (by rw[List.size_toArray];omega)) ⟨e,?_⟩
 refine⟨.non,_,I.lset (its':=its++[u]) hH e (by simp) (r.append (.cons ru .nil)) ?_,rfl,q⟩
 rw[List.length_append,List.length_singleton]
 omega
noncomputable def rPop:V→List V→Hp→VK→Prop:=fun x vs H Q=>∃ l xs y,x=.ref l∧vs=[]∧H l=some (.lst xs)∧xs[xs.length - 1]? =some y∧Q y (upd H l (.lst xs.dropLast))
theorem q6p:MtM X "list.pop" rPop:=by
 intro pins s σ H x vs v us Q I rx rv h
 obtain ⟨l,xs,y,rfl,rfl,hH,hy,q⟩:=h
 cases rx
 have hus:=rv.zero
 subst hus
 obtain ⟨z,its,n,r,hl,e⟩:=I.lstM hH
 obtain ⟨u,hu,ru⟩:=r.get hy
 have hy':its.toArray[its.toArray.size - 1]? =some u:=by
   show its.toArray[its.length - 1]? =some u
   rw[← Array.getElem?_toList,← hl]
   exact hu
 refine call_meets F.slot_list_pop ⟨_,e,rfl⟩ F.entry_list_pop (F.args_list_pop_1 _) (MeetsSeq.list_pop_last l its.toArray n u hy' (by rw[List.size_toArray];omega)) ⟨e,?_⟩
 refine⟨y,_,I.lset (its':=its.dropLast) hH e ?_ r.dropLast ?_,ru,q⟩
 · show its.toArray.eraseIdxIfInBounds (its.toArray.size - 1)=its.dropLast.toArray
   rw[List.size_toArray,List.eraseIdxIfInBounds_toArray,qu0]
 · rw[List.length_dropLast]
   omega
noncomputable def q6q:V→List V→Hp→VK→Prop:=fun x vs H Q=>∃ l xs,x=.ref l∧vs=[]∧H l=some (.lst xs)∧Q .non (upd H l (.lst []))
theorem qzg:MtM X "list.clear" q6q:=by
 intro pins s σ H x vs v us Q I rx rv h
 obtain ⟨l,xs,rfl,rfl,hH,q⟩:=h
 cases rx
 have hus:=rv.zero
 subst hus
 obtain ⟨z,its,n,r,hl,e⟩:=I.lstM hH
 refine call_meets F.slot_list_clear ⟨_,e,rfl⟩ F.entry_list_clear (F.args_list_clear_1 _) (AutoSeq1.list_clear_list_0 l its.toArray n (by rw[List.size_toArray];omega)) ⟨e,?_⟩
 exact⟨.non,_,I.lset (its':=[]) (ys:=[]) hH e rfl .nil (Nat.zero_le _),rfl,q⟩
noncomputable def rCat:R2:=fun x y H Q=>∃ l b xs zs,x=.ref l∧y=.ref b∧H l=some (.lst xs)∧H b=some (.lst zs)∧xs.length+zs.length≤sizeLine∧∀ p,H p=none→Q (.ref p) (upd H p (.lst (xs++zs)))
theorem q6r:OpR X (binaryOp .Add) rCat:=by
 intro pins s σ H x y v u Q I rx ry h
 obtain ⟨l,b,xs,zs,rfl,rfl,hH,hB,hz,q⟩:=h
 cases rx
 cases ry
 obtain ⟨z,its,n,r,hl,e⟩:=I.lstM hH
 obtain ⟨z2,its2,n2,r2,hl2,e2⟩:=I.lstM hB
 refine PySem.P.add_list e e2 ?_ (by rw[List.size_toArray,List.size_toArray];omega)
 have ea:its.toArray++its2.toArray=(its++its2).toArray:=by simp
 rw[ea]
 exact⟨.ref _,_,I.lnew (t':=s.toks) (r.append r2) (by rw[List.length_append];omega),rfl,q _ I.fresh⟩
noncomputable def rRep:R2:=fun x y H Q=>∃ l k xs,x=.ref l∧y=.int k∧H l=some (.lst xs)∧ -(2 ^ 63)≤k∧k < 2 ^ 63∧xs.length * k.toNat≤sizeLine ∧
 ∀ p,H p=none→Q (.ref p) (upd H p (.lst (List.replicate k.toNat xs).flatten))
theorem len_rep {α:Type} (xs:List α) (k:Nat):(List.replicate k xs).flatten.length=k * xs.length:=by
 induction k with
 | zero=>simp
 | succ k ih=>rw[List.replicate_succ,List.flatten_cons,List.length_append,ih,Nat.succ_mul,Nat.add_comm]
theorem q6s:OpR X (binaryOp .Mult) rRep:=by
 intro pins s σ H x y v u Q I rx ry h
 obtain ⟨l,k,xs,rfl,rfl,hH,h1,h2,hz,q⟩:=h
 cases rx
 obtain ⟨t,rfl⟩:=ry
 obtain ⟨z,its,n,r,hl,e⟩:=I.lstM hH
 have hlen:its.toArray.size * k.toNat≤sizeLine:=by rw[List.size_toArray,← hl];exact hz
 have hcap:¬ its.toArray.size * k.toNat > (2 ^ 63 - 1) / 8:=by
   have:(sizeLine:Nat)≤(2 ^ 63 - 1) / 8:=by decide
   omega
 have hfit:¬ (!Builtin.List.listFitsIndex k)=true:=by
   rw[fitsIndex_both h1 h2]
   exact Bool.false_ne_true
 have hlong:¬ Builtin.List.listTooLong (its.toArray.size * k.toNat)=true:=by
   rw[qzf hlen]
   exact Bool.false_ne_true
 have hnew:List.foldl (fun x1 x2=>x1++x2) #[] (List.replicate (if its.toArray.isEmpty=true then 0 else k.toNat) its.toArray)=(List.replicate k.toNat its).flatten.toArray:=by
   have f0:∀ m:Nat,List.foldl (fun x1 x2=>x1++x2) #[] (List.replicate m its.toArray)=(List.replicate m its).flatten.toArray:=fun m=>by
     have:=foldl_rep its m []
     rw[List.nil_append]at this
     exact this
   rw[f0]
   cases its with
   | nil=>simp
   | cons a r'=>rw[if_neg (by simp)]
 refine wpAny_binaryOp_repeat_ref (T:="list") (U:="int") (by decide) ⟨_,e,rfl⟩ (fun s'=>typeIs_int s' k t) noFill_list_mul F.fills_int_mul F.slot_int_rmul repeat_list F.slot_int_index.lookup
   (call_meets F.slot_int_rmul (typeIs_int s k t) F.entry_int_rmul (F.args_int_rmul_2 _ _) (int___rmul___int_list k t l its.toArray n)
     ⟨e,rfl,⟨_,e,rfl⟩,call_meets F.slot_list_mul ⟨_,e,rfl⟩ F.entry_list_mul (F.args_list_mul_2 _ _) (AutoListH.list___mul___list_int_3 l its.toArray n k t hfit hcap hlong) ⟨e,?_⟩⟩)
 rw[hnew]
 exact⟨.ref _,_,I.lnew (t':=s.toks) (r.rep k.toNat) (by rw[len_rep,Nat.mul_comm];exact hz),rfl,q _ I.fresh⟩
end
section
variable {prog:Program} {w:World} {A:Around} {E:Value→Shared→Prop} {s:Shared}
end
section
variable {X:Cx}
end
end L2
namespace Att
open PySem PySem.W PySem.Calls PyProof.Rows
theorem qkv {P:Params} {h:Heap}:∀ (ns:List Int) (vs:List Value),WellAll P h vs (ns.map WData.int)→IntsAre vs ns:=by
 intro ns
 induction ns with
 | nil =>
   intro vs w
   rw[List.map_nil]at w
   cases w
   exact .nil
 | cons n ns ih =>
   intro vs w
   rw[List.map_cons]at w
   cases w with
   | cons a b =>
     cases a
     exact .cons _ _ (ih _ b)
theorem qxq {l:OpenLaw} {n:Nat} (hn:l.most=some n) {P:Params} {h:Heap} {args:List WData} {vals:List Value}
   (hpre:l.row.toRowW.claim.pre args=true) (hwl:WellAll P h vals args) :
   ∃ a vs ns,vals=[Value.ref a]∧args=[WData.list (ns.map WData.int)]∧h.get? a=some { cls:=.type "list",data:=.seq vs.toArray }∧IntsAre vs ns∧ns.length≤n:=by
 have hsh:WShape.hasAll [] args [.list .int]=true:=(pre_splitW hpre).1
 have hc:l.pre.holds [] { args:=args }=true:=(pre_splitW hpre).2
 obtain ⟨d,r,rfl,h1,h2⟩:=hasAllW_cons hsh
 obtain rfl:=hasAllW_nil h2
 obtain ⟨xs,rfl,h3⟩:=hasW_list h1
 obtain ⟨ns,rfl⟩:=items_int h3
 have hlen:ns.length≤n:=by
   unfold OpenLaw.pre at hc
   have h4:(WTm.not (.lt (.lit (.int (n:Int))) (.len (.arg 0)))).holds [] { args:=[.list (ns.map .int)] }=true:=by
     have h4:=(holds_andW hc).1
     rw[hn]at h4
     exact h4
   have h5:=condW_of h4 (w_not (w_lt w_lit (w_len_list (w_arg rfl))))
   rw[List.length_map]at h5
   refine Nat.le_of_not_lt fun q=> ?_
   have q':(n:Int) < ((ns.length:Nat):Int):=by omega
   first
     | (rw[decide_eq_true q']at h5;exact absurd h5 (by decide))
     | (simp at h5;omega)
 cases hwl with
 | cons w1 w2 =>
   cases w2
   cases w1 with
   | list ho hall=>exact⟨_,_,ns,rfl,rfl,ho,qkv ns _ hall,hlen⟩
theorem qxr (l:OpenLaw) (args:List WData):l.row.toRowW.claim.post args (.bool true) args=true :=
 postW_of (r:=l.row.toRowW) (X:=(true==true))
   (show WShape.has [] (.bool true) .bool=true by first | rfl | decide | simp [WShape.has,WShape.arms,WShape.armsAll])
   (show (WTm.eq .res (.lit (.bool true))).value [] { args:=args,res:=some (.bool true),after:=args }=some (.bool (true==true)) from w_eq_bool (w_res rfl) w_lit) rfl
theorem attach_call {l:OpenLaw} {n:Nat} {q:Program} {loose:List Str} {XP:(Str→Option Value)→Heap→Prop} {YP:World→Heap→Prop} {d:DefRec}
   (hn:l.most=some n) (hdf:d.params.defaults=[])
   (call:∀ (w:World) (s₀ s₁:Shared) (mg mb:Str→Option Value) (fa:Addr) (o:Obj) (pm cd doc:Value) (a:Addr) (vs:List Value) (ns:List Int),
     Ground q loose [] XP w s₀ mg mb s₁.heap→YP w s₁.heap →
     s₁.heap.get? fa=some o→o.data=.func (docDef d.name d.params d.body d.scope pm cd doc)→s₁.heap.CodeRec cd d.name→mg d.name=some (.ref fa) →
     s₁.heap.get? a=some { cls:=.type "list",data:=.seq vs.toArray }→IntsAre vs ns→ns.length≤n→s₁.gens= #[] →
     codeAny (model l.prog w) callerA (.call (.ref fa) ⟨[.ref a],[]⟩) (fun r s'=>r=.ok (.ret (.bool true))∧OldK s₁.heap s'.heap∧s'.os=s₁.os∧AllBare s'.gens) s₁) :
   WalkO q loose XP YP l.row.toRowW d [] (fun f vs=>PySem.call f vs):=by
 intro w s₀ s₁ mg mb G Y fa o pm cd doc dV kV ho hd hcd hD hmg hg args vals as hpre hlay hrd hwl hlo
 obtain rfl:dV=.none:=Dflts.none hD hdf
 obtain rfl:kV=.none:=Dflts.noKw hD
 obtain ⟨a,vs,ns,rfl,rfl,hobj,hints,hlen⟩:=qxq hn hpre hwl
 refine enter_call (codeAny_mono (call w s₀ s₁ mg mb fa o pm cd doc a vs ns G Y ho (fd_plain hd) hcd hmg hobj hints hlen hg) fun r s' hq=> ?_)
 obtain ⟨rfl,h2,h3,h4⟩:=hq
 exact⟨.inl ⟨.bool true,.bool true,[],rfl,fun _=>rfl,.bool true,qxr l _,fun _=>⟨List.Pairwise.nil,fun _ hm=>(nomatch hm)⟩⟩,h2,h3,h4⟩
section
variable {prog:Program} {w:World} {A:Around} {E:Value→Shared→Prop} {s:Shared} {K:Frag}
end
end Att
namespace L2
open PySem PySem.Spec PyProof.Rows
theorem qoy:∀ {vs:List Value} {ns:List Int},IntsAre vs ns→Vals (ns.map V.int) vs
 | _,_,.nil=>.nil
 | _,_,.cons n t h=>.cons ⟨t,rfl⟩ (qoy h)
noncomputable def q6t (H:Hp):Prop:=∀ b,H b=none∨∃ o xs,H b=some (.frz o (.lst xs))
theorem qzh {P:Program} {w:World} {K:PySem.W.Frag} {mg mb:Str→Option Value} {CX:CXT} {k:Nat} {fa a:Addr} {fd:FuncData} {x:Str} {sp:Sp} {s₁:Shared} {vs:List Value} {ns:List Int}
   (KX:K.In s₁.heap) (hns:s₁.heap.Ns mainGlobals mg) (hb:s₁.heap.Ns builtinsNs mb) (hbb:∀ x:Str,x ≠ "__name__"→mb x=bootBuiltins x) (hlim:s₁.heap.NoLimit) (hg:s₁.gens= #[])
   (ha:s₁.heap.get? a=some { cls:=.type "list",data:=.seq vs.toArray }) (hi:IntsAre vs ns) (hl:ns.length≤sizeLine) (hr:qcy k callerA)
   (F:∀ base:Heap,K.In base→base.Ns mainGlobals mg→qek P w K mg base CX k fa fd [x] sp) (hbind:∀ (s:Shared) (u:Value),BindsTo s fd ⟨[u],[]⟩ [(x,u)])
   (hsp:∀ H:Hp,q6t H→SqL K H a (ns.map V.int)→sp [.ref a] H (fun v _=>v=.bl true) fun _ _ _=>False)
   (hCX:∀ H e s',CX [] H s₁ (fun _ _ _=>False) e s'→False) :
   codeAny (model P w) callerA (.call (.ref fa) ⟨[.ref a],[]⟩) (fun r s'=>r=.ok (.ret (.bool true))∧OldK s₁.heap s'.heap∧s'.os=s₁.os∧AllBare s'.gens) s₁:=by
 have rv:=qoy hi
 have lenV:=hi.length
 have core :∀ H:Hp,q6t H→SqL K H a (ns.map V.int)→HOk P w H s₁.heap→(∀ b,H b ≠ none→b=a)→(H a ≠ none→K.lookup a=none) →
     codeAny (model P w) callerA (.call (.ref fa) ⟨[.ref a],[]⟩) (fun r s'=>r=.ok (.ret (.bool true))∧OldK s₁.heap s'.heap∧s'.os=s₁.os∧AllBare s'.gens) s₁:=by
   intro H hO hS hok hA hK
   have base_of:∀ {b:Addr} {o:Obj},s₁.heap.get? b=some o→H b=none→(qpz s₁.heap H).get? b=some o:=fun e n=>qyy e n
   have noA:∀ {b:Addr} {o:Obj} {es:Array DictEntry} {ep:Nat},s₁.heap.get? b=some o→o.data=.dict es ep→H b=none:=fun {b o es ep} e d=>by
     cases q:H b with
     | none=>rfl
     | some u =>
       have e':b=a:=hA b (by rw[q];simp)
       subst e'
       rw[ha]at e;cases e
       have d':Data.seq vs.toArray _=Data.dict es ep:=d
       cases d'
   have nsK:∀ {b:Addr} {m:Str→Option Value},s₁.heap.Ns b m→(qpz s₁.heap H).Ns b m:=fun {b m} ⟨o,es,ep,e,d,r⟩=>⟨o,es,ep,base_of e (noA e d),d,r⟩
   have hKb:K.In (qpz s₁.heap H):=fun b o e=>base_of (KX b o e) (by
     cases q:H b with
     | none=>rfl
     | some u =>
       have e':b=a:=hA b (by rw[q];simp)
       subst e'
       rw[hK (by rw[q];simp)]at e;cases e)
   have hM:Mod K mg (qpz s₁.heap H):=⟨hKb,nsK hns,⟨mb,nsK hb,hbb⟩,let ⟨mc,h1,h2⟩:=hlim;⟨mc,nsK h1,h2⟩⟩
   have e0:q2q P w K mg (qpz s₁.heap H) callerA [] s₁ H:=⟨rfl,hM,fun b o e=>q18 e,Nat.le_of_eq (qxd _ _),trivial,fun b hb=>absurd (show b ∈ ([]:List Addr) from hb) (by simp),hok,.of_eq hg⟩
   refine codeAny_mono ((F _ hKb (nsK hns)).run callerA [] s₁ H ⟨[.ref a],[]⟩ [.ref a] [.ref a] _ _ hr e0 (hbind s₁ (.ref a)) (.cons rfl .nil) (hsp H hO hS)) fun r s' h=> ?_
   cases r with
   | error e=>exact(hCX H e s' h).elim
   | ok fl =>
     cases fl with
     | next=>exact False.elim h
     | brk=>exact False.elim h
     | cont=>exact False.elim h
     | ret u =>
       obtain ⟨v,H',os,bare,un,hok',r',q⟩:=h
       have q':v=.bl true:=q
       subst q'
       obtain rfl:u=Value.bool true:=r'
       refine⟨rfl,OldK.of_keep fun b o e=> ?_,os,bare⟩
       cases q:H b with
       | none=>exact un.keep b o e q (by intro z;exact absurd (show b ∈ ([]:List Addr) from z) (by simp)) (by simp)
       | some u =>
         rcases hO b with z | ⟨ob,xs,z⟩
         · rw[q]at z;cases z
         · have z2:=un.frzs b ob _ z
           obtain ⟨e1,_⟩:=hok b _ z
           obtain ⟨e2,_⟩:=hok' b _ z2
           rw[e]at e1;cases e1
           exact e2
 cases hk:K.lookup a with
 | some o =>
   have e:=KX a o hk
   rw[ha]at e
   cases e
   refine core (fun _=>none) (fun _=>.inl rfl) (.inr ⟨_,vs.toArray,_,hk,rfl,rfl,rfl,by rw[List.size_toArray,lenV];exact hl,by simpa using rv⟩) (fun b u z=>by have z':(none:Option HO)=some u:=z;cases z') (fun b z=>absurd rfl z) fun z=>absurd rfl z
 | none =>
   refine core (fun b=>if b=a then some (.frz { cls:=.type "list",data:=.seq vs.toArray } (.lst (ns.map V.int)))else none) (fun b=> ?_) (.inl (.inr ⟨{ cls:=.type "list",data:=.seq vs.toArray },if_pos rfl⟩)) (fun b u z=> ?_) (fun b z=> ?_) fun _=>hk
   · by_cases hb:b=a
     · exact .inr ⟨_,_,if_pos hb⟩
     · exact .inl (if_neg hb)
   · by_cases hb:b=a
     · have z':=(if_pos hb).symm.trans z
       cases z'
       subst hb
       exact⟨ha,by rw[List.length_map];exact hl,vs,_,rv,ha⟩
     · have z':=(if_neg hb).symm.trans z
       cases z'
   · by_cases hb:b=a
     · exact hb
     · exact absurd (if_neg hb) z
theorem walk_of {l:PySem.W.OpenLaw} {n k:Nat} {q:Program} {loose:List Str} {XP:(Str→Option Value)→Heap→Prop} {YP:World→Heap→Prop} {d:DefRec} {K:Params→PySem.W.Frag} {CX:World→CXT} {sp:World→Sp} {x:Str}
   (hn:l.most=some n) (hn2:n≤sizeLine) (hdf:d.params.defaults=[]) (hr:qcy k callerA)
   (hY:∀ (w:World) (h:Heap),YP w h→(K w.params).In h)
   (F:∀ (w:World) (mg:Str→Option Value) (fa:Addr) (h:Heap),(K w.params).In h→h.Ns mainGlobals mg→mg d.name=some (.ref fa) →
     ∃ fd:FuncData,(∀ (s:Shared) (u:Value),BindsTo s fd ⟨[u],[]⟩ [(x,u)]) ∧
       ∀ base:Heap,(K w.params).In base→base.Ns mainGlobals mg→qek l.prog w (K w.params) mg base (CX w) k fa fd [x] (sp w))
   (hsp:∀ (w:World) (H:Hp) (a:Addr) (ns:List Int),ns.length≤n→q6t H→SqL (K w.params) H a (ns.map V.int)→sp w [.ref a] H (fun v _=>v=.bl true) fun _ _ _=>False)
   (hCX:∀ (w:World) (H:Hp) (s:Shared) (e:Value) (s':Shared),CX w [] H s (fun _ _ _=>False) e s'→False) :
   PySem.W.WalkO q loose XP YP l.row.toRowW d [] (fun f vs=>PySem.call f vs):=by
 refine Att.attach_call hn hdf fun w s₀ s₁ mg mb fa o pm cd doc a vs ns G Y ho hd hcd hmg hobj hints hlen hg=> ?_
 have KX:=hY w _ Y
 obtain ⟨fd,hb,hF⟩:=F w mg fa _ KX G.T.g hmg
 exact qzh KX G.T.g G.T.b G.T.builtins G.T.nolimit hg hobj hints (Nat.le_trans hlen hn2) hr hF hb (fun H hO hS=>hsp w H a ns hlen hO hS) fun H e s'=>hCX w H s₁ e s'
noncomputable def qc1 (s:Stmt):Arguments:=match s with
 | .FunctionDef _ a _ _ _ _ _ _ _ _=>a
 | _=>{ posonlyargs:=[],args:=[],vararg:=none,kwonlyargs:=[],kw_defaults:=[],kwarg:=none,defaults:=[] }
noncomputable def qa4 (s:Stmt):List Stmt:=match s with
 | .FunctionDef _ _ b _ _ _ _ _ _ _=>b
 | _=>[]
noncomputable def qf (s:Stmt):Scope:=match s with
 | .FunctionDef _ _ _ _ _ _ sc _ _ _=>sc
 | _=>{ kind:=.function,names:=[],isGenerator:=false,isCoroutine:=false }
noncomputable abbrev CX0:CXT:=fun _ _ _ _ _ _=>False
noncomputable abbrev E0:XK:=fun _ _ _=>False
theorem qaak {X:Cx}:Passes CX0 X E0:=fun _ _ _ _ _ _ _ h=>h.elim
structure Fun (K:PySem.W.Frag) (x qual:Str) (st:Stmt) (f:Addr) (fd:FuncData):Prop where
 ex:∃ (oc:Value) (od:Option Addr) (kV doc pm:Value) (an:Option Addr) (cdv ct:Value) (osl:Array (Option Value)),
   fd=PySem.W.fnOf x qual (qc1 st) (qa4 st) (qf st) .none kV doc pm an cdv ct∧K.lookup f=some ⟨oc,od,.func fd,osl⟩∧PySem.W.codeIn K cdv qual=true
 kp:PySem.W.keepIn K (.ref f)=true
section
variable {P:Program} {w:World} {K:PySem.W.Frag} {mg:Str→Option Value} {base:Heap}
theorem Fun.ok {x qual:Str} {st:Stmt} {f:Addr} {fd:FuncData} {N ps:List Str} {k:Nat} {sp:Sp} (F:Fun K x qual st f fd) (S:qc0 N ps (qf st)) (len:∀ vs H Q E,sp vs H Q E→vs.length=ps.length)
   (hbody:∀ (cdv:Value) (A:Around) (outer:List Env) (s:Shared) (H:Hp) (vs:List V) (Q:VK) (E:XK),qcy k (A.deeper (envOfC qual (qf st) s.heap.objs.size f cdv))→sp vs H Q E →
     ∃ t,PSs (qno CX0 P w K mg base N qual (qf st) f cdv A outer s H E).nox (qa4 st) t∧t { nx:=fun _ H'=>Q .non H',rt:=Q } (start N vs) H):qek P w K mg base CX0 (k+1) f fd ps sp:=by
 obtain ⟨oc,od,kV,doc,pm,an,cdv,ct,osl,rfl,lk,hcd⟩:=F.ex
 refine qaae lk hcd S len fun A outer s H vs Q E hr hsp=> ?_
 obtain ⟨t,h,q⟩:=hbody cdv A outer s H vs Q E hr hsp
 exact⟨t,h.nox,q⟩
theorem qp8 {x qual:Str} {st:Stmt} {f:Addr} {oc:Value} {od an:Option Addr} {osl:Array (Option Value)} {kV doc pm cdv ct:Value} (l:K.lookup f=some ⟨oc,od,.func (PySem.W.fnOf x qual (qc1 st) (qa4 st) (qf st) .none kV doc pm an cdv ct),osl⟩)
   (c:PySem.W.codeIn K cdv qual=true) (k:PySem.W.keepIn K (.ref f)=true):Fun K x qual st f (PySem.W.fnOf x qual (qc1 st) (qa4 st) (qf st) .none kV doc pm an cdv ct):=⟨⟨oc,od,kV,doc,pm,an,cdv,ct,osl,rfl,l,c⟩,k⟩
end
theorem qbv {n:Nat} (h:n≤1000):n < sizeLine:=Nat.lt_of_le_of_lt h (by decide)
section
variable {X:Cx}
theorem pv (i:Nat) {x:Str} {pos:Pos} (hN:X.N[i]? =some x:=by rfl) (hv:Vis X.env.scope x:=by first | exact Or.inl rfl | exact Or.inr (Or.inl rfl) | exact Or.inr (Or.inr rfl)) (hd:(x==("__debug__":Str))=false:=by decide)
   (hcd:(x==("__classdict__":Str))=false:=by decide):PE X (.Name x pos) (q5o i):=quq hN hv hd hcd
end
noncomputable def qgi (H H':Hp):Prop:=∀ b o,H b=some o→H' b=some o
theorem qgi.trans {H H1 H2:Hp} (a:qgi H H1) (b:qgi H1 H2):qgi H H2:=fun c o h=>b c o (a c o h)
theorem qgi.free {H H':Hp} (e:qgi H H') {l:Addr} (h:H' l=Option.none):H l=Option.none:=by
 cases q:H l with
 | none=>rfl
 | some o =>
   rw[e l o q]at h
   cases h
structure Fn (P:Program) (w:World) (K:PySem.W.Frag) (mg:Str→Option Value) (base:Heap) (x:Str) (ps:List Str) (k:Nat) (sp:Sp):Prop where
 ex:∃ (f:Addr) (fd:FuncData),qek P w K mg base CX0 k f fd ps sp∧mg x=some (.ref f)∧PySem.W.keepIn K (.ref f)=true∧Binds K fd ps []
section
variable {X:Cx} {x:Str} {ps:List Str} {k k':Nat} {sp:Sp} {p pos:Pos} {e:Expr} {es:List Expr} {t:TA}
theorem qaal (F:Fn X.prog X.w X.K X.mg X.base x ps k sp) (hr:qcy k' X.A) (hk:k≤k') (hg:Gl X x) (ha:PA X (e::es) t) (hdb:(x==("__debug__":Str))=false:=by decide)
   (he:starEach (e::es) X.env=(false,eval e X.env)::starEach es X.env:=by rfl) (hpl:(backTo pos (starEach es X.env)).any (·.1)=false:=by rfl) :
   PE X (.Call (.Name x p) (e::es) [] pos) (qy9 sp [] E0 t):=by
 obtain ⟨f,fd,G,hm,hkp,hb⟩:=F.ex
 exact qv4 G (hr.mono hk) hg hm hkp hb .nil qaak ha hdb he hpl
end
theorem qk6:bootBuiltins "list"=some (.type "list"):=by decide +kernel
theorem qr6:bootBuiltins "tuple"=some (.type "tuple"):=by decide +kernel
theorem q2v:bootBuiltins "bool"=some (.type "bool"):=by decide +kernel
theorem qzi:bootBuiltins "int"=some (.type "int"):=by decide +kernel
theorem qzj:bootBuiltins "str"=some (.type "str"):=by decide +kernel
theorem q2w:bootBuiltins "dict"=some (.type "dict"):=by decide +kernel
theorem q6u:bootBuiltins "set"=some (.type "set"):=by decide +kernel
theorem qp9:bootBuiltins "enumerate"=some (.type "enumerate"):=by decide +kernel
theorem q6v:bootBuiltins "zip"=some (.type "zip"):=by decide +kernel
theorem qzk:bootBuiltins "len"=some (.builtin "len"):=by decide +kernel
theorem q6w:bootBuiltins "min"=some (.builtin "min"):=by decide +kernel
theorem q6x:bootBuiltins "max"=some (.builtin "max"):=by decide +kernel
theorem q6y:bootBuiltins "sum"=some (.builtin "sum"):=by decide +kernel
theorem q6z:bootBuiltins "all"=some (.builtin "all"):=by decide +kernel
theorem q60:bootBuiltins "any"=some (.builtin "any"):=by decide +kernel
theorem qxs:bootBuiltins "sorted"=some (.builtin "sorted"):=by decide +kernel
theorem qnr:bootBuiltins "isinstance"=some (.builtin "isinstance"):=by decide +kernel
section
variable {X:Cx}
noncomputable def rIsi (K:PySem.W.Frag):List V→Hp→VK→Prop:=fun xs H Q=>∃ x n t b,xs=[x,.ty n]∧qhh K H x t∧PySem.W.kitOne K t (.type n)=some b∧Q (.bl b) H
theorem qzl:qal X (.builtin "isinstance") (rIsi X.K):=by
 intro pins s σ H xs us Q I r h
 obtain ⟨x,n,t,b,rfl,ty,e,q⟩:=h
 cases r with
 | cons r1 r =>
   cases r with
   | cons r2 r =>
     cases r
     obtain rfl:=(show _=Value.type n from r2)
     exact qxn I r1 ty e fun tk=>⟨.bl b,H,I.tok _,rfl,q⟩
end
example (K:PySem.W.Frag):PySem.W.kitOne K (.type "int") (.type "list")=some false:=by rfl
example (K:PySem.W.Frag):PySem.W.kitOne K (.type "int") (.type "int")=some true:=by rfl
example (K:PySem.W.Frag):PySem.W.kitOne K (.type "bool") (.type "int")=some true:=by rfl
example (K:PySem.W.Frag):PySem.W.kitOne K (.type "list") (.type "tuple")=some false:=by rfl
example (K:PySem.W.Frag):PySem.W.kitOne K (.type "NoneType") (.type "str")=some false:=by rfl
section
variable {X:Cx} {pins:List (Addr × Obj)} {σ:St} {H:Hp} {s:Shared}
end
section
variable {X:Cx}
theorem of_rcne {A:Around} {s:Shared} {prog:Program} {w:World} {E:Value→Shared→Prop} {Q:Value→Shared→Prop} {a b:Value} {k:Bool} (h:SeqAt.RcNeAt A s a b k) (hq:Q (.bool k) s):wpAny (model prog w) A (compareOp .NotEq a b) Q E s:=h prog w E Q hq
end
theorem qgi.upd {H:Hp} {p:Addr} {o:HO} (h:H p=none):qgi H (L2.upd H p o):=fun c u e=>by rw[qc (q9 e h)];exact e
theorem qaam {P:Program} {w:World} {K:PySem.W.Frag} {mg:Str→Option Value} {base:Heap} {x:Str} {ps:List Str} {k:Nat} {sp:Sp} {f:Addr} {fd:FuncData} (F:qek P w K mg base CX0 k f fd ps sp) (m:mg x=some (.ref f)) (kp:PySem.W.keepIn K (.ref f)=true) (b:Binds K fd ps []):Fn P w K mg base x ps k sp:=⟨f,fd,F,m,kp,b⟩
section
variable {X:Cx}
noncomputable def qgg (i j:Int):Prop:=0 < j∧j < 1606938044258990275541962092341162602522202993782792835301376
theorem qgg.ok {i j:Int} (h:qgg i j):Builtin.divisionGoesByPylong i j=false:=by
 refine PyProof.noPylong_of_log2 ?_
 have h1:j.natAbs < 2 ^ 200:=by have:=h.1;have:=h.2;omega
 have h2:j.natAbs ≠ 0:=by have:=h.1;omega
 have:=(Nat.log2_lt h2).mpr h1
 omega
theorem qzm:OpR X (binaryOp .FloorDiv) (rI qgg fun i j=>.int (i / j)):=opI fun i j _ _ _ _ _ hc q=>by
 refine floordiv_int (by have:=hc.1;omega) ?_ (.inl hc.ok)
 rw[Int.fdiv_eq_ediv_of_nonneg _ (Int.le_of_lt hc.1)]
 exact q
theorem qzn:qr0 X (q6l X.K):=by
 intro pins s σ H x y v u Q I rx ry h
 obtain ⟨p,xs,i,z,rfl,rfl,hq,he,q⟩:=h
 cases rx
 obtain ⟨t,rfl⟩:=ry
 obtain ⟨its,r,pl,hz⟩:=I.list hq
 obtain ⟨j,h1,h2,h3,h4,h5⟩:=qk5 he
 obtain ⟨w,ew,rw'⟩:=r.get h2
 have hl:=r.length
 have hn:=qe9
 have fin:EP X pins σ Q w s:=⟨z,H,I,rw',q⟩
 by_cases h0:0≤i
 · have hj:i.toNat=j:=by
     rw[seqIndex_of h0 h5]at h1
     exact Option.some.inj h1
   exact wpAny_getItem_list pl.isList h0 (by omega) (by rw[hj];simpa using ew) fin
 · have hj:(i+(its.toArray.size:Int)).toNat=j:=by
     rw[seqIndex_neg (by omega) h4]at h1
     rw[List.size_toArray,← hl]
     exact Option.some.inj h1
   exact wpAny_getItem_list_neg pl.isList (by omega) (by rw[List.size_toArray] <;> omega) (by omega) (by rw[hj];simpa using ew) fin
end
theorem qxt (ns:List Int) (lo hi:Option Int):∃ ms:List Int,qku (ns.map V.int) lo hi=ms.map V.int :=
 ⟨(ns.drop (HT.sIx (ns.map V.int).length 0 lo)).take (HT.sIx (ns.map V.int).length (ns.map V.int).length hi - HT.sIx (ns.map V.int).length 0 lo),by unfold qku;rw[← List.map_drop,← List.map_take]⟩
noncomputable def qdu (env:Env):List (Str × NameKind)→List (Str × Addr)→List (Str × Addr)
 | [],cs=>cs
 | (n,k)::r,cs=>qdu env r (if k==.free then (n,(env.cells.lookup n).getD 0)::cs else cs)
noncomputable def clo (scope:Scope) (env:Env):List (Str × Addr):=qdu env scope.names []
theorem qki (env:Env):∀ (names:List (Str × NameKind)) (cs:List (Str × Addr)),(∀ y ∈ names,y.2=.free→∃ c,env.cells.lookup y.1=some c) →
   (forIn names cs (fun (x:Str × NameKind) (r:List (Str × Addr))=>do
     let cs:=r
     if x.2==NameKind.free then do
       let c ← cellOf env x.1
       let cs:=(x.1,c)::cs
       pure PUnit.unit
       pure (ForInStep.yield cs)
     else do
       pure PUnit.unit
       pure (ForInStep.yield cs)):Sem (List (Str × Addr)))=pure (qdu env names cs)
 | [],cs,_=>rfl
 | (n,k)::r,cs,h=>by
   have ih:=fun cs=>qki env r cs (fun y hy=>h y (List.mem_cons_of_mem _ hy))
   rw[List.forIn_cons]
   by_cases hk:k=.free
   · subst hk
     obtain ⟨c,e⟩:=h (n,.free) List.mem_cons_self rfl
     have e1:cellOf env n=pure c:=by unfold cellOf;rw[e]
     simp only [beq_self_eq_true,if_true,e1,pure_bind]
     rw[ih]
     show _=pure (qdu env r (if (NameKind.free==NameKind.free)=true then _ else _))
     rw[if_pos (by rfl),e]
     rfl
   · have hb:(k==NameKind.free)=false:=by simpa using hk
     simp only [hb,Bool.false_eq_true,if_false,pure_bind]
     rw[ih]
     show _=pure (qdu env r (if (k==NameKind.free)=true then _ else _))
     rw[hb]
     rfl
theorem qlm {scope:Scope} {env:Env} (h:∀ y ∈ scope.names,y.2=.free→∃ c,env.cells.lookup y.1=some c):closureFor scope env=pure (clo scope env):=by
 unfold closureFor
 have:=qki env scope.names [] h
 simp only [pure_bind,bind_pure]at this ⊢
 exact this
theorem qkj (env:Env):∀ (names:List (Str × NameKind)) (cs:List (Str × Addr)) (x:Str) (c:Addr),(∀ y ∈ names,y.2=.free→∃ c,env.cells.lookup y.1=some c)→(qdu env names cs).lookup x=some c →
   (cs.lookup x=some c∨env.cells.lookup x=some c)
 | [],cs,x,c,_,h=>.inl h
 | (n, k)::r,cs,x,c,hh,h=>by
   have ih:=qkj env r (if k==.free then (n,(env.cells.lookup n).getD 0)::cs else cs) x c (fun y hy=>hh y (List.mem_cons_of_mem _ hy)) h
   rcases ih with ih | ih
   · by_cases hk:k=.free
     · subst hk
       rw[if_pos (by rfl)]at ih
       obtain ⟨d,e⟩:=hh (n,.free) List.mem_cons_self rfl
       by_cases hx:x=n
       · subst hx
         simp [List.lookup_cons]at ih
         rw[e]at ih
         right
         rw[e]
         simpa using ih
       · have:(x==n)=false:=by simpa using hx
         simp only [List.lookup_cons,this]at ih
         exact .inl ih
     · have hb:(k==NameKind.free)=false:=by simpa using hk
       rw[hb]at ih
       exact .inl ih
   · exact .inr ih
theorem qel {scope:Scope} {env:Env} {x:Str} {c:Addr} (hh:∀ y ∈ scope.names,y.2=.free→∃ c,env.cells.lookup y.1=some c) (h:(clo scope env).lookup x=some c):env.cells.lookup x=some c:=by
 rcases qkj env scope.names [] x c hh h with z | z
 · simp at z
 · exact z
theorem qhj (env:Env):∀ (names:List (Str × NameKind)) (cs:List (Str × Addr)) (x:Str),(∃ c,cs.lookup x=some c)→∃ c,(qdu env names cs).lookup x=some c
 | [],cs,x,h=>h
 | (n,k)::r,cs,x,h=>by
   refine qhj env r _ x ?_
   by_cases hk:(k==NameKind.free)=true
   · rw[if_pos hk,List.lookup_cons]
     cases x==n with
     | true=>exact⟨_,rfl⟩
     | false=>exact h
   · rw[if_neg hk];exact h
theorem qfa (env:Env):∀ (names:List (Str × NameKind)) (cs:List (Str × Addr)) (x:Str),(x,NameKind.free) ∈ names→∃ c,(qdu env names cs).lookup x=some c
 | [],cs,x,h=>by simp at h
 | (n,k)::r,cs,x,h=>by
   rcases List.mem_cons.mp h with h | h
   · cases h
     refine qhj env r _ _ ?_
     rw[if_pos (by rfl),List.lookup_cons]
     simp
   · exact qfa env r _ x h
theorem qc2 {scope:Scope} {env:Env} {x:Str} {k:NameKind} (h:(relabel scope env).names.lookup x=some k):(x,k) ∈ scope.names∨(k=.cell∧(x,NameKind.free) ∈ scope.names):=by
 have hm:=PySem.mem_of_lookup h
 unfold relabel at hm
 obtain ⟨⟨n,k'⟩,h1,h2⟩:=List.mem_map.mp hm
 dsimp only at h2
 by_cases hc:(k'==NameKind.free && env.scope.kind==.function && env.kindOf n==some .cell)=true
 · rw[if_pos hc]at h2
   cases h2
   simp only [Bool.and_eq_true,beq_iff_eq]at hc
   obtain ⟨⟨rfl,_⟩,_⟩:=hc
   exact .inr ⟨rfl,h1⟩
 · rw[if_neg hc]at h2
   cases h2
   exact .inl h1
theorem qaf:∀ (names:List (Str × NameKind)) (n:Nat) (acc:List (Str × Addr)),cellsFrom n names acc=cellsFrom n names []++acc
 | [],n,acc=>rfl
 | (x,k)::r,n,acc=>by
   by_cases hk:(k==NameKind.cell)=true
   · have e:∀ a,cellsFrom n ((x,k)::r) a=cellsFrom (n+1) r ((x,n)::a):=fun a=>by rw[cellsFrom,if_pos hk]
     rw[e,e,qaf r (n+1) ((x,n)::acc),qaf r (n+1) [(x,n)],List.append_assoc]
     rfl
   · have e:∀ a,cellsFrom n ((x,k)::r) a=cellsFrom n r a:=fun a=>by rw[cellsFrom,if_neg hk]
     rw[e,e]
     exact qaf r n acc
theorem qd2:∀ {names:List (Str × NameKind)} {n:Nat} {x:Str} {a:Addr},(x,a) ∈ cellsFrom n names []→(x,NameKind.cell) ∈ names
 | [],n,x,a,h=>by simp [cellsFrom]at h
 | (y, k)::r,n,x,a,h=>by
   by_cases hk:(k==NameKind.cell)=true
   · rw[cellsFrom,if_pos hk,qaf]at h
     rcases List.mem_append.mp h with z | z
     · exact List.mem_cons_of_mem _ (qd2 z)
     · have z:(x,a)=(y,n):=by simpa using z
       cases z
       have:k=.cell:=by simpa using hk
       subst this
       exact List.mem_cons_self
   · rw[cellsFrom,if_neg hk]at h
     exact List.mem_cons_of_mem _ (qd2 h)
theorem qdb {α:Type} (x:Str):∀ (l m:List (Str × α)),(l++m).lookup x=(l.lookup x).or (m.lookup x)
 | [],m=>rfl
 | (y,a)::l,m=>by
   rw[List.cons_append,List.lookup_cons,List.lookup_cons,qdb x l m]
   cases x==y <;> rfl
theorem qcu:∀ {names:List (Str × NameKind)} {n:Nat} {x:Str},(x,NameKind.cell) ∈ names→∃ a,(cellsFrom n names []).lookup x=some a
 | [],n,x,h=>by simp at h
 | (y, k)::r,n,x,h=>by
   by_cases hk:(k==NameKind.cell)=true
   · rw[cellsFrom,if_pos hk,qaf,qdb]
     rcases List.mem_cons.mp h with z | z
     · cases z
       cases q:(cellsFrom (n+1) r []).lookup y with
       | some a=>exact⟨a,rfl⟩
       | none=>exact⟨n,by simp [List.lookup_cons]⟩
     · obtain ⟨a,e⟩:=qcu (n:=n+1) z
       exact⟨a,by rw[e];rfl⟩
   · rw[cellsFrom,if_neg hk]
     rcases List.mem_cons.mp h with z | z
     · cases z;simp at hk
     · exact qcu z
theorem qgj {M:Model} {A:Around} {E:Value→Shared→Prop} {scope:Scope} {cl:List (Str × Addr)} {env:Env} {Q:Env→Shared→Prop} {s:Shared}
   (h:Q { scope:=scope,locals:=s.heap.objs.size,globals:=env.globals,cells:=cellsFrom (s.heap.objs.size+1) scope.names cl,qual:=env.qual,func:=none,code:=env.code,frame:=env.frame,builtins:=env.builtins } { s with heap:=pushCells (s.heap.push { cls:=.type "dict",data:=.dict #[] }) scope.names }) :
   wpAny M A (newFunctionEnv scope env.globals cl [] env.qual none .none (some env)) Q E s:=by
 simp only [newFunctionEnv,Option.isSome_some,if_true]
 refine wpAny_bind (wpAny_alloc ?_)
 refine wpAny_bind (wpAny_layCells _ (fun name kind cells=>by cases hkc:kind==NameKind.cell <;> simp [hkc]) _ _ _ _ ?_)
 rw[show ({ s with heap:=s.heap.push { cls:=.type "dict",data:=.dict #[] } }:Shared).heap.objs.size=s.heap.objs.size+1 from Heap.size_push ..]
 rw[List.forIn_nil]
 exact wpAny_bind (wpAny_pure (wpAny_pure h))
noncomputable def cxC (X:Cx) (ts M:List Str) (scope:Scope) (C:Addr) (fp:List Addr) (s₀:Shared) (H₀:Hp):Cx :=
 { X with N:=ts++M,s₀:=s₀,H₀:=H₀,env:=compEnvC scope (cellsFrom (C+1) scope.names (clo scope X.env)) C X.env,outer:=X.stack,ex:=fp,fn:=fun x=>scope.names.lookup x==some .cell,pn:=[],xe:=fun _ _=>False }
structure qax (X:Cx) (ts M:List Str) (scope:Scope):Prop where
 kind:scope.kind=.function
 cell:∀ x ∈ M,(x,NameKind.cell) ∉ scope.names
 loc:∀ y ∈ scope.names,y.2=.local→scope.names.lookup y.1=some .local
 fr:∀ y ∈ scope.names,y.2=.free→X.env.kindOf y.1=some .cell∨X.env.kindOf y.1=some .free
 own:∀ x ∈ M,(x,NameKind.local) ∉ scope.names
 nd:(ts++M).Nodup
 len:M.length=X.N.length
 seen:∀ (i:Nat) (x:Str) (k:NameKind),M[i]? =some x→(x,k) ∈ scope.names→X.N[i]? =some x
noncomputable def qiv (N:List Str) (sc:Scope) (ts M:List Str) (scope:Scope):Bool :=
 scope.kind==.function && scope.names.all (fun y=>(y.2 != .local || scope.names.lookup y.1==some .local) && (y.2 != .free || (sc.names.lookup y.1==some .cell || sc.names.lookup y.1==some .free))) &&
   M.all (fun x=>scope.names.all fun y=> !(y.1==x && (y.2==.local || y.2==.cell))) && decide (ts++M).Nodup && (decide (M.length=N.length) && (N.zip M).all fun p=>p.1==p.2 || scope.names.all fun y=> !(y.1==p.2))
theorem qfz {X:Cx} {N:List Str} {sc:Scope} {ts M:List Str} {scope:Scope} (hN:X.N=N) (hs:X.env.scope=sc) (h:qiv N sc ts M scope=true):qax X ts M scope:=by
 subst hN hs
 unfold qiv at h
 rw[Bool.and_eq_true,Bool.and_eq_true (decide (M.length=X.N.length))]at h
 obtain ⟨h,h5,h6⟩:=h
 simp only [Bool.and_eq_true,List.all_eq_true,decide_eq_true_eq,bne_iff_ne,Bool.or_eq_true,beq_iff_eq,Bool.not_eq_true',Bool.and_eq_false_imp]at h
 obtain ⟨⟨⟨h1,h2⟩,h3⟩,h4⟩:=h
 have h5:M.length=X.N.length:=of_decide_eq_true h5
 refine⟨h1,fun x hx hy=> ?_,fun y hy hk=> ?_,fun y hy hk=> ?_,fun x hx hy=> ?_,h4,h5,fun i x k hi hk=> ?_⟩
 · have:=h3 x hx (x,.cell) hy rfl
   simp at this
 · rcases (h2 y hy).1 with z | z
   · exact absurd hk z
   · exact z
 · rcases (h2 y hy).2 with z | z
   · exact absurd hk z
   · exact z
 · have:=h3 x hx (x,.local) hy rfl
   simp at this
 · have hl:i < M.length:=(List.getElem?_eq_some_iff.mp hi).1
   have hl2:i < X.N.length:=by omega
   have e2:X.N[i]? =some X.N[i]:=by simp [hl2]
   have hm:(X.N[i],x) ∈ X.N.zip M:=by
     refine List.mem_of_getElem? (i:=i) ?_
     rw[List.getElem?_zip_eq_some]
     exact⟨e2,hi⟩
   have:=List.all_eq_true.mp h6 _ hm
   rcases Bool.or_eq_true _ _ ▸ this with z | z
   · have z:X.N[i]=x:=by simpa using z
     rw[e2,z]
   · have:=List.all_eq_true.mp z _ hk
     simp at this
noncomputable def qoz (scope sc:Scope):Scope :=
 { scope with names:=scope.names.map fun (n,k)=>if (k==.free && sc.kind==.function && sc.names.lookup n==some .cell)then (n,.cell)else (n,k) }
section
variable {X:Cx} {pins:List (Addr × Obj)} {σ:St} {H:Hp} {s:Shared} {ts M:List Str} {scope:Scope} {fp:List Addr}
theorem qax.has (c:qax X ts M scope) (ok:X.Ok):∀ y ∈ scope.names,y.2=.free→∃ a,X.env.cells.lookup y.1=some a:=fun y hy hk=>ok.has y.1 (c.fr y hy hk)
theorem qax.cellIn {x:Str} (h:(relabel scope X.env).names.lookup x=some .cell∨(relabel scope X.env).names.lookup x=some .free):(x,NameKind.free) ∈ scope.names∨(x,NameKind.cell) ∈ scope.names:=by
 rcases h with h | h
 · rcases qc2 h with z | ⟨_,z⟩
   · exact .inr z
   · exact .inl z
 · rcases qc2 h with z | ⟨z,_⟩
   · exact .inl z
   · cases z
structure q2x (scope:Scope) (C:Addr) (h₁:Heap):Prop where
 empty:∀ x a,(x,a) ∈ cellsFrom (C+1) scope.names []→h₁.IsCell a none∧ @LT.lt Nat _ C a
 apart:(cellsFrom (C+1) scope.names []).Pairwise fun x y=>x.2 ≠ y.2
theorem qam {env:Env} {C:Addr} {x:Str} {a:Addr} (h:(cellsFrom (C+1) scope.names (clo scope env)).lookup x=some a):(x,a) ∈ cellsFrom (C+1) scope.names []∨((cellsFrom (C+1) scope.names []).lookup x=none∧(clo scope env).lookup x=some a):=by
 rw[qaf,qdb]at h
 cases e:(cellsFrom (C+1) scope.names []).lookup x with
 | some b =>
   rw[e]at h
   have:b=a:=by simpa using h
   subst this
   exact .inl (PySem.mem_of_lookup e)
 | none =>
   rw[e]at h
   exact .inr ⟨rfl,by simpa using h⟩
theorem Inv.comp (c:qax X ts M scope) (I:Inv X pins σ H s) (hf:∀ b ∈ fp,qei X pins H b) (ho:∀ b ∈ fp,b < s.heap.objs.size) {C:Addr} {h₁:Heap} {t':Nat} (hC:s.heap.objs.size≤C) (hn:h₁.Ns C fun _=>none) (hO:q2x scope C h₁) (k:∀ b u,s.heap.get? b=some u→h₁.get? b=some u) :
   Inv (cxC X ts M scope C fp s H) [] (List.replicate ts.length none++σ) H { s with heap:=h₁,toks:=t' }:=by
 have has:=c.has I.ok
 have sub:∀ x a,(clo scope X.env).lookup x=some a→X.env.cells.lookup x=some a:=fun x a h=>qel has h
 have low:∀ x a,(clo scope X.env).lookup x=some a→ @LT.lt Nat _ a C:=fun x a h=>by
   obtain ⟨v,q⟩:=I.cell x a (sub x a h)
   have:=q.lt
   exact Nat.lt_of_lt_of_le this hC
 have kept:=I.kept (t':=t') k
 refine⟨⟨I.ok.mod,c.kind,I.ok.glob,I.ok.blt,hC,fun x y a h1 h2=> ?_,fun x hx=> ?_,fun x a hx h=> ?_,I.ok.hd,I.ok.frames,.inl rfl,fun b hb=>⟨?_,fun x a h=> ?_⟩,I.bs,Nat.le_trans I.ok.bsz I.sz,fun b o e hb=> ?_,fun b hb z=> ?_,I.stack,I.stkFree⟩,
   rfl,I.bare,Un.kept k,⟨_,hn,fun i x v h1 h2 h3=> ?_⟩,fun x a h=> ?_,I.hok.fresh hC,fun x a h=> ?_,fun p hp=>by simp [cxC]at hp,I.hok.kept k,?_⟩
 · rcases qam h1 with z1 | ⟨_,z1⟩ <;> rcases qam h2 with z2 | ⟨_,z2⟩
   · exact PySem.name_of_addr hO.apart z1 z2
   · exact absurd (Nat.lt_trans (hO.empty _ _ z1).2 (low _ _ z2)) (Nat.lt_irrefl _)
   · exact absurd (Nat.lt_trans (hO.empty _ _ z2).2 (low _ _ z1)) (Nat.lt_irrefl _)
   · exact I.ok.inj x y a (sub x a z1) (sub y a z2)
 · show ∃ a,(cellsFrom (C+1) scope.names (clo scope X.env)).lookup x=some a
   rw[qaf,qdb]
   rcases qax.cellIn hx with z | z
   · obtain ⟨a,e⟩:=qfa X.env scope.names [] x z
     cases (cellsFrom (C+1) scope.names []).lookup x with
     | some b=>exact⟨b,rfl⟩
     | none=>exact⟨a,e⟩
   · obtain ⟨a,e⟩:=qcu (n:=C+1) z
     exact⟨a,by rw[e];rfl⟩
 · have hx:(scope.names.lookup x==some NameKind.cell)=true:=hx
   have hx:scope.names.lookup x=some NameKind.cell:=by simpa using hx
   obtain ⟨b,e⟩:=qcu (n:=C+1) (PySem.mem_of_lookup hx)
   rcases qam h with z | ⟨z,_⟩
   · exact Nat.le_trans hC (Nat.le_of_lt (hO.empty _ _ z).2)
   · rw[e]at z;cases z
 · exact Nat.ne_of_lt (Nat.lt_of_lt_of_le (ho b hb) hC)
 · rcases qam h with z | ⟨_,z⟩
   · exact Nat.ne_of_gt (Nat.lt_trans (Nat.lt_of_lt_of_le (ho b hb) hC) (hO.empty _ _ z).2)
   · exact(hf b hb).2.2.2.2.1 x a (sub x a z)
 · rcases (hf b hb).2.2.2.1 with z | z
   · exact I.ok.noex b o e z
   · exact absurd (Nat.lt_of_lt_of_le (Heap.lt_size e) (Nat.le_trans I.ok.bsz z)) (Nat.lt_irrefl _)
 · rcases List.mem_cons.mp (I.stkSub b z)with e | e
   · exact(hf b hb).2.1 e
   · exact(hf b hb).2.2.1 e
 · -- a name of the def,seen in the block
   have hi:ts.length≤i:=by
     rcases Nat.lt_or_ge i ts.length with z | z
     · rw[List.getElem?_append_left (by simpa using z),List.getElem?_replicate]at h2
       split at h2 <;> cases h2
     · exact z
   have h0':M[i - ts.length]? =some x:=by
     have h1:(ts++M)[i]? =some x:=h1
     rwa [List.getElem?_append_right hi]at h1
   have h2':σ[i - ts.length]? =some (some v):=by
     rw[List.getElem?_append_right (by simpa using hi)]at h2
     simpa using h2
   have nC:=c.cell x (List.mem_of_getElem? h0')
   have hx:(x,NameKind.free) ∈ scope.names:=by
     rcases h3 with z | z
     · rcases qc2 z with q | ⟨q,_⟩
       · exact absurd q (c.own x (List.mem_of_getElem? h0'))
       · cases q
     · rcases qax.cellIn z with q | q
       · exact q
       · exact absurd q nC
   have hk:=c.fr _ hx rfl
   have h1':=c.seen _ x _ h0' hx
   obtain ⟨m,hm,hl⟩:=I.loc
   have vis:Vis X.env.scope x:=by
     rcases hk with z | z
     · exact .inr (.inl z)
     · exact .inr (.inr z)
   obtain ⟨u,r,l⟩:=hl _ x v h1' h2' vis
   refine⟨u,r,.inr ⟨?_,?_⟩⟩
   · rcases h3 with z | z
     · rcases qc2 z with q | ⟨q,_⟩
       · exact absurd q (c.own x (List.mem_of_getElem? h0'))
       · cases q
     · exact z
   · rcases l with ⟨l,_⟩ | ⟨_,a,ha,hcell⟩
     · exfalso
       rcases hk with z | z
       · rw[l]at z;cases z
       · rw[l]at z;cases z
     · obtain ⟨a',ha'⟩:=qfa X.env scope.names [] x hx
       have:X.env.cells.lookup x=some a':=sub x a' ha'
       rw[ha]at this;cases this
       obtain ⟨o,e,d⟩:=hcell
       refine⟨a,?_,o,k _ _ e,d⟩
       show (cellsFrom (C+1) scope.names (clo scope X.env)).lookup x=some a
       rw[qaf,qdb]
       cases q:(cellsFrom (C+1) scope.names []).lookup x with
       | some b=>exact absurd (qd2 (PySem.mem_of_lookup q)) nC
       | none=>exact ha'
 · rcases qam h with z | ⟨_,z⟩
   · exact⟨none,(hO.empty _ _ z).1⟩
   · obtain ⟨v,o,e,d⟩:=I.cell x a (sub x a z)
     exact⟨v,o,k _ _ e,d⟩
 · rcases qam h with z | ⟨_,z⟩
   · exact I.hok.fresh (Nat.le_trans hC (Nat.le_of_lt (hO.empty _ _ z).2))
   · exact I.freeC x a (sub x a z)
 · show (List.replicate ts.length none++σ).length=(ts++M).length
   rw[List.length_append,List.length_append,List.length_replicate,I.len,c.len]
theorem Inv.comped {H':Hp} {s':Shared} {σ':St} {C D:Addr} {pins':List (Addr × Obj)} {ys:List V} (I:Inv X pins σ H s) (hf:∀ b ∈ fp,qei X pins H b) (J:Inv (cxC X ts M scope C fp s H) pins' σ' H' s') (hD:s.heap.objs.size≤D) (hD0:H' D=none) (hz:ys.length≤sizeLine) {its:List Value} {n:Nat} (rv:Vals ys its)
   (hl:s'.heap.get? D=some { cls:=.type "list",data:=.seq its.toArray n }):Inv X pins σ (upd H' D (.lst ys)) s':=by
 have u:=J.base
 have neD:∀ b o,s.heap.get? b=some o→b ≠ D:=fun b o e=>Nat.ne_of_lt (Nat.lt_of_lt_of_le (Heap.lt_size e) hD)
 have neH:∀ b o,H' b=some o→b ≠ D:=fun b o e z=>by rw[z,hD0]at e;cases e
 refine I.call' (ch:=fp) J.os ⟨u.keep,u.slot,fun b o e n hb=> ?_,u.there,fun b xs e=> ?_,fun b o w e=> ?_,fun b ps e=> ?_⟩ (fun b o e=> ?_) J.bare (fun b hb=>⟨(hf b hb).2.2.2.1,(hf b hb).2.1,(hf b hb).2.2.2.2.1,(hf b hb).2.2.2.2.2⟩)
 · rw[qc (neD b o e)];exact u.free b o e n hb
 · have q:=u.tups b xs e
   rw[qc (neH b _ q)];exact q
 · have q:=u.frzs b o w e
   rw[qc (neH b _ q)];exact q
 · obtain ⟨more,q⟩:=u.tbls b ps e
   exact⟨more,by rw[qc (neH b _ q)];exact q⟩
 · by_cases hb:b=D
   · subst hb
     rw[qi]at e;cases e
     exact⟨hz,its,n,rv,hl⟩
   · rw[qc hb]at e
     refine(J.hok b o e).stay (fun _ _ _ q=>q) (fun c q=> ?_) fun c xs q=> ?_
     · rw[qc (neH c _ q)];exact q
     · rw[qc (neH c _ q)];exact q
end
noncomputable def PF (X:Cx) (ifs:List Expr) (t:TT):Prop :=
 ∀ (pins:List (Addr × Obj)) (s:Shared) (σ:St) (H:Hp) (Q:Bool→Hp→Prop),Inv X pins σ H s→t σ H Q →
   wpAny (model X.prog X.w) X.A (forIn ifs true fun c r=>if r=true then do let ok ← isTrue c X.env (eval c X.env);pure (ForInStep.yield ok)else pure (ForInStep.yield r)) (TP X pins σ Q) X.xe s
noncomputable def tYes:TT:=fun _ H Q=>Q true H
theorem q61 {X:Cx}:PF X [] tYes:=fun _ _ _ H _ I h=>wpAny_tests_nil ⟨H,I,h⟩
theorem q62 {X:Cx} {c:Expr} {t:TT} (h:PT X c t):PF X [c] t:=fun pins s σ H Q I hq=>wpAny_tests_one (h pins s σ H Q I hq)
theorem qqa {prog:Program} {w:World} {A:Around} {R:Result→Shared→Prop} {elt target iter:Expr} {ifs:List Expr} {scope:Scope} {pos:Pos} {it acc:Value} {env:Env} {s:Shared} (I:Nat→Shared→Prop)
   (turn : ∀ n s,I n s→wpAny (model prog w) A (pyNext it) (fun r s₁=>match r with
     | none=>R (.ok .next) s₁
     | some v=>wpAny (model prog w) A (letOwnedTupleGo target it v) (fun _ s₁'=>wpAny (model prog w) A (assign target env v) (fun _ s₂ =>
         wpAny (model prog w) A (forIn ifs true fun c r=>if r=true then do let ok ← isTrue c env (eval c env);pure (ForInStep.yield ok)else pure (ForInStep.yield r)) (fun ok s₃ =>
           if ok=true then wpAny (model prog w) A (eval elt env) (fun x s₄ =>
             wpAny (model prog w) A (call (.builtin "list.append") [acc,x]) (fun _ s₅=>∃ m,m < n∧I m s₅) (fun _ _=>False) s₄) (fun _ _=>False) s₃
           else ∃ m,m < n∧I m s₃) (fun _ _=>False) s₂) (fun _ _=>False) s₁') (fun _ _=>False) s₁) (fun _ _=>False) s)
   (n:Nat) (h:I n s) :
   codeAny (model prog w) A (.compLoop (.ListComp elt [⟨target,iter,ifs,0⟩] scope pos) 0 it acc env) R s:=by
 refine codeAny_loop rfl I (fun n s hI=> ?_) n h
 show wpAny _ A ((compTurn (.ListComp elt [⟨target,iter,ifs,0⟩] scope pos) 0 it acc env).onRaise (fun x=>do noteFrame x env;theTreesLotGoes x)) _ _ s
 refine wpAny_noted ?_
 rw[compTurn_list]
 refine wpAny_bind (wpAny_standAt (wpAny_bind (wpAny_mono (turn n s hI) (fun r s₁ h₁=> ?_) fun _ _ h'=>h'.elim)))
 cases r with
 | none=>exact wpAny_pure h₁
 | some v =>
   refine wpAny_bind (wpAny_mono h₁ (fun _ s₁' h₁'=> ?_) fun _ _ h'=>h'.elim)
   refine wpAny_bind (wpAny_mono h₁' (fun _ s₂ h₂=>wpAny_bind (wpAny_mono h₂ (fun ok s₃ h₃=> ?_) fun _ _ h'=>h'.elim)) fun _ _ h'=>h'.elim)
   cases ok with
   | false=>exact wpAny_pure ⟨rfl,h₃⟩
   | true =>
     exact wpAny_bind (wpAny_bind (wpAny_mono h₃ (fun x s₄ h₄=>wpAny_bind (wpAny_mono h₄ (fun _ s₅ h₅=>wpAny_pure (wpAny_pure ⟨rfl,h₅⟩)) fun _ _ h'=>h'.elim)) fun _ _ h'=>h'.elim))
noncomputable def LcW (J:It) (n:Nat) (g:TG) (tt:TT) (te:TE) (σ:St) (H1:Hp) (Fin:List V→Hp→Prop):Prop :=
 ∃ W : Nat→Nat→List V→Hp→Prop,(∃ m,W 0 m [] H1)∧∀ i m ys H,W i m ys H→ys.length < sizeLine ∧
   ((J.stop i H∧Fin ys H) ∨
    (J.go i H∧∃ N:List V→Hp→Prop,(∀ ys' H',N ys' H'→∃ m',m' < m∧W (i+1) m' ys' H')∧∀ x H',J.yld i H x H'→g x (List.replicate n none++σ) H' fun σ2 H2=>σ2.drop n=σ∧tt σ2 H2 fun c H3 =>
       if c=true then te σ2 H3 fun y H4=>N (ys++[y]) H4 else N ys H3))
noncomputable def tLC (n:Nat) (wi:TI) (g:TG) (tt:TT) (te:TE):TE:=fun σ H Q=>wi σ H fun J H1=>LcW J n g tt te σ H1 fun ys H'=>∀ D,H' D=none→Q (.ref D) (upd H' D (.lst ys))
section
variable {X:Cx} {pins:List (Addr × Obj)} {σ:St} {H:Hp} {s:Shared} {ts M:List Str} {scope:Scope} {fp:List Addr}
theorem qr7 {tg iter elt:Expr} {ifs:List Expr} {pos:Pos} {g:TG} {tt:TT} {te:TE} (c:qax X ts M scope) (hc:X.calm=true) (hg:∀ C fp s₀ H₀,PG (cxC X ts M scope C fp s₀ H₀) tg g) (hf:∀ C fp s₀ H₀,PF (cxC X ts M scope C fp s₀ H₀) ifs tt)
   (he:∀ C fp s₀ H₀,PE (cxC X ts M scope C fp s₀ H₀) elt te) {it:Addr} {tn:Nat→Heap→Prop} {J:It} {Fin:List V→Hp→Prop} (I:Inv X pins σ H s) (T:Turn X.prog X.w X.K tg J fp it tn) (t0:tn 0 s.heap) (f0:∀ b ∈ fp,qei X pins H b) (hw:LcW J ts.length g tt te σ H Fin)
   {RR:Value→Addr→Result→Shared→Prop}
   (hRR:∀ (D C:Addr) (H':Hp) (s':Shared) (ys:List V) (m:Str→Option Value),Inv X pins σ (upd H' D (.lst ys)) s'→s'.heap.Ns C m→C ≠ X.env.locals→(∀ x a,X.env.cells.lookup x=some a→a ≠ C)→X.s₀.heap.objs.size≤C→upd H' D (.lst ys) C=none→(∀ p ∈ X.pn++pins,p.1 ≠ C)→H' D=none→Fin ys H'→RR (.ref D) C (.ok .next) s') :
   wpAny (model X.prog X.w) X.A (newList []) (fun acc s₃=>wpAny (model X.prog X.w) X.A (newFunctionEnv scope X.env.globals (clo scope X.env) [] X.env.qual none .none (some X.env)) (fun cenv s₄ =>
     codeAny (model X.prog X.w) X.A (.compStart (.ListComp elt [⟨tg,iter,ifs,0⟩] scope pos) 0 (.ref it) acc { cenv with scope:=relabel scope X.env }) (RR acc cenv.locals) s₄) X.xe s₃) X.xe s:=by
 obtain ⟨W,⟨m0,w0⟩,turn⟩:=hw
 have fpo:∀ b ∈ fp,b < s.heap.objs.size:=fun b hb=>by obtain ⟨o,e,_⟩:=T.obj _ _ t0 b hb;exact Heap.lt_size e
 refine wpAny_newObj_type (qgj ?_)
 dsimp only
 generalize hH2:s.heap.push { cls:=.type "list",dict:=none,data:=.seq ([]:List Value).toArray }=h2
 have hCs:h2.objs.size=s.heap.objs.size+1:=by rw[← hH2,Heap.size_push]
 obtain ⟨C,hCe⟩:∃ C:Nat,h2.objs.size=C:=⟨_,rfl⟩
 obtain ⟨D,hDe⟩:∃ D:Nat,s.heap.objs.size=D:=⟨_,rfl⟩
 have hns₁:=(Heap.Ns.new h2 (.type "dict")).keeps (pushCells_keeps scope.names (h2.push { cls:=.type "dict",data:=.dict #[] }))
 have ok:=cellsFrom_ok scope.names (h2.push { cls:=.type "dict",data:=.dict #[] }) (h2.objs.size+1) [] ⟨fun _ _ hm=>(nomatch hm),List.Pairwise.nil⟩ (by rw[Heap.size_push];exact Nat.le_refl _)
 rw[Heap.size_push]at ok
 rw[hCe]at hns₁ ok ⊢
 rw[hDe]
 rw[hCe,hDe]at hCs
 have hDC:D ≠ C:=by omega
 generalize hh1:pushCells (h2.push { cls:=.type "dict",data:=.dict #[] }) scope.names=h₁ at hns₁ ok ⊢
 have kp:∀ b o,h2.get? b=some o→h₁.get? b=some o:=fun b o e=>by rw[← hh1];exact pushCells_keeps _ _ b o (Heap.get?_push_of_some _ e)
 have old:∀ b u,s.heap.get? b=some u→h₁.get? b=some u:=fun b u e=>kp b u (hH2 ▸ Heap.get?_push_of_some _ e)
 have hacc:h₁.get? D=some { cls:=.type "list",data:=.seq ([]:List Value).toArray 0 }:=by
   refine kp _ _ ?_
   rw[← hH2,← hDe]
   exact Heap.get?_push_size _ rfl
 have hns:h₁.Ns C fun _=>none:=hns₁
 have hO:q2x scope C h₁:=⟨fun x a h=>⟨(ok.empty x a h).1,(ok.empty x a h).2⟩,ok.apart⟩
 have J0:Inv (cxC X ts M scope C fp s H) [] (List.replicate ts.length none++σ) H { s with heap:=h₁,toks:=s.toks }:=I.comp c f0 fpo (by omega) hns hO old
 have hDn:H D=none:=I.hok.fresh (by omega)
 have loop : codeAny (model X.prog X.w) X.A (.compLoop (.ListComp elt [⟨tg,iter,ifs,0⟩] scope pos) 0 (.ref it) (.ref D) (compEnvC scope (cellsFrom (C+1) scope.names (clo scope X.env)) C X.env)) (RR (.ref D) C) { s with heap:=h₁,toks:=s.toks }:=by
   refine qqa (fun n s'=>∃ (i:Nat) (σ':St) (H':Hp) (ys:List V) (its:List Value) (k:Nat),Inv (cxC X ts M scope C fp s H) [] σ' H' s'∧σ'.drop ts.length=σ∧tn i s'.heap∧(∀ b ∈ fp,H' b=none)∧H' D=none∧s'.heap.get? D=some { cls:=.type "list",data:=.seq its.toArray k }∧Vals ys its∧W i n ys H') ?_ m0
     ⟨0,_,H,[],[],0,J0,by rw[List.drop_append,List.drop_of_length_le (by simp)];simp,T.keep _ _ _ t0 fun b _ o e=>old b o e,fun b hb=>(f0 b hb).1,hDn,hacc,.nil,w0⟩
   rintro n s1 ⟨i,σ1,H1,ys,its,k,I1,d1,t1,fr1,hD1,hl1,rv1,w1⟩
   obtain ⟨hz,hturn⟩:=turn i n ys H1 w1
   have nDfp:D ∉ fp:=fun z=>by have: @LT.lt Nat _ D s.heap.objs.size:=fpo D z;omega
   have neC:∀ x a,(cellsFrom (C+1) scope.names (clo scope X.env)).lookup x=some a→a ≠ D:=fun x a h z=>by
     have z: @Eq Nat a D:=z
     rcases qam h with h | ⟨_,h⟩
     · have:=(hO.empty _ _ h).2
       omega
     · obtain ⟨v,q⟩:=I.cell x a (qel (c.has I.ok) h)
       have: @LT.lt Nat _ a s.heap.objs.size:=q.lt
       omega
   have pinD:∀ {H':Hp} {s':Shared} {obj:Obj},s'.heap.get? D=some obj→H' D=none→(∀ v,obj.data ≠ .cell v)→∀ p ∈ [(D,obj)],s'.heap.get? p.1=some p.2∧H' p.1=none∧p.1 ≠ (cxC X ts M scope C fp s H).env.locals∧p.1 ∉ (cxC X ts M scope C fp s H).fs∧∀ v,p.2.data ≠ .cell v:=by
     intro H' s' obj e1 e2 e3 p hp
     have hp:p=(D,obj):=by simpa using hp
     subst hp
     refine⟨e1,e2,hDC,fun z=> ?_,e3⟩
     have z:D ∈ frs X.stack:=z
     rcases List.mem_cons.mp (I.stkSub D z)with e | e
     · have: @LT.lt Nat _ X.env.locals s.heap.objs.size:=I.lt
       have e: @Eq Nat D X.env.locals:=e
       omega
     · exact I.nofs (a:=D) (by omega) e
   have I1':=I1.pins_of (pinD hl1 hD1 fun v z=>by cases z)
   have fpk:∀ {H':Hp},(∀ b ∈ fp,H' b=none)→∀ b ∈ fp,qei (cxC X ts M scope C fp s H) [(D,{ cls:=.type "list",data:=.seq its.toArray k })] H' b:=fun {H'} fr b hb=>by
     refine⟨fr b hb,fun z=> ?_,I1.ok.exfs b hb,.inl hb,fun x a h=> ?_,fun p hp=> ?_⟩
     · have: @LT.lt Nat _ b s.heap.objs.size:=fpo b hb
       have z: @Eq Nat b C:=z
       omega
     · rcases qam h with h | ⟨_,h⟩
       · have h1:=(hO.empty _ _ h).2
         have h2: @LT.lt Nat _ b s.heap.objs.size:=fpo b hb
         exact Nat.ne_of_gt (by omega)
       · exact(f0 b hb).2.2.2.2.1 x a (qel (c.has I.ok) h)
     · have hp:p=(D,{ cls:=.type "list",data:=.seq its.toArray k }):=by simpa [cxC]using hp
       subst hp
       rintro rfl
       exact nDfp hb
   rcases hturn with ⟨stop,fin⟩ | ⟨go,N,hN,step⟩
   · refine wpAny_mono (T.done (cxC X ts M scope C fp s H) rfl rfl rfl hc i _ s1 σ1 H1 (fun _ _=>False) I1' (fpk fr1) t1 stop) (fun r s2 ⟨hr,I2⟩=> ?_) fun _ _ z=>z
     subst hr
     have pD:=I2.pin (D,{ cls:=.type "list",data:=.seq its.toArray k }) (by simp)
     obtain ⟨m2,hn2,_⟩:=I2.loc
     refine hRR D C H1 s2 ys m2 (I.comped f0 I2 (by omega) hD1 (by omega) rv1 pD.1) hn2 ?_ (fun x a h=> ?_) ?_ ?_ (fun p hp=> ?_) hD1 fin
     · have: @LT.lt Nat _ X.env.locals s.heap.objs.size:=I.lt
       exact Nat.ne_of_gt (by omega)
     · obtain ⟨v,q⟩:=I.cell x a h
       have: @LT.lt Nat _ a s.heap.objs.size:=q.lt
       exact Nat.ne_of_lt (by omega)
     · have:=I.sz;omega
     · rw[qc (Ne.symm hDC)];exact I2.free
     · have: @LT.lt Nat _ p.1 s.heap.objs.size:=Heap.lt_size (I.pin p hp).1
       exact Nat.ne_of_lt (by omega)
   · refine wpAny_mono (T.item (cxC X ts M scope C fp s H) rfl rfl rfl hc i _ s1 σ1 H1 (fun _ _=>False) I1' (fpk fr1) t1 go) (fun r s2 ⟨u,hr,h2⟩=> ?_) fun _ _ z=>z
     subst hr
     refine wpAny_mono h2 (fun _ s3 ⟨x,H3,I3,r3,y3,t3,fr3⟩=> ?_) fun _ _ z=>z
     have I3':Inv (cxC X ts M scope C fp s H) _ (List.replicate ts.length none++σ) H3 s3:=(I3.pinned (fpk fr3) (T.obj _ _ t3)).weak (by
         have:=I3.len
         have e:σ1.length=(ts++M).length:=I3.len
         rw[List.length_append,List.length_replicate,I.len,e,List.length_append,c.len]) (fun j v e=>by
         have hj:ts.length≤j:=by
           rcases Nat.lt_or_ge j ts.length with z | z
           · rw[List.getElem?_append_left (by simpa using z),List.getElem?_replicate]at e
             split at e <;> cases e
           · exact z
         rw[List.getElem?_append_right (by simpa using hj)]at e
         rw[← d1,List.getElem?_drop]at e
         simp only [List.length_replicate]at e
         rwa [show ts.length+(j - ts.length)=j by omega]at e)
     refine wpAny_mono (hg C fp s H _ s3 _ H3 x u _ I3' r3 (step x H3 y3)) (fun _ s4 ⟨σ4,H4,I4,d4,q4⟩=> ?_) fun _ _ z=>z
     refine wpAny_mono (hf C fp s H _ s4 σ4 H4 _ I4 q4) (fun ok s5 ⟨H5,I5,q5⟩=> ?_) fun _ _ z=>z
     have keepT:∀ {σ7:St} {H7:Hp} {s7:Shared},Inv (cxC X ts M scope C fp s H) ([(D,{ cls:=.type "list",data:=.seq its.toArray k })]++qej fp s3.heap) σ7 H7 s7→tn (i+1) s7.heap∧(∀ b ∈ fp,H7 b=none):=fun {σ7 H7 s7} I7 =>
       ⟨T.keep _ _ _ t3 fun b hb o e=>(I7.pin (b,o) (List.mem_append_right _ (List.mem_append_right _ (qat hb e)))).1,fun b hb=>by
         obtain ⟨o,e,_⟩:=T.obj _ _ t3 b hb
         exact(I7.pin (b,o) (List.mem_append_right _ (List.mem_append_right _ (qat hb e)))).2.1⟩
     cases ok with
     | false =>
       rw[if_neg Bool.false_ne_true]at q5 ⊢
       obtain ⟨m',hm,w'⟩:=hN _ _ q5
       have pD:=I5.pin (D,{ cls:=.type "list",data:=.seq its.toArray k }) (by simp)
       exact⟨m',hm,i+1,σ4,H5,ys,its,k,I5.pins_of (fun p hp=>by simp at hp),d4,(keepT I5).1,(keepT I5).2,pD.2.1,pD.1,rv1,w'⟩
     | true =>
       rw[if_pos rfl]at q5 ⊢
       refine wpAny_mono (he C fp s H _ s5 σ4 H5 _ I5 q5) (fun v s6 ⟨y,H6,I6,r6,q6⟩=> ?_) fun _ _ z=>z
       obtain ⟨m',hm,w'⟩:=hN _ _ q6
       have pD:=I6.pin (D,{ cls:=.type "list",data:=.seq its.toArray k }) (by simp)
       have hlen:=rv1.length
       refine call_meets F.slot_list_append ⟨_,pD.1,rfl⟩ F.entry_list_append (F.args_list_append_2 _ _) (PySem.list_append D its.toArray k v (by rw[List.size_toArray];omega)) ⟨pD.1,?_⟩
       have q:=PySem.IsL.update pD.1 (·.push v)
       rw[show its.toArray.push v=(its++[v]).toArray by simp]at q
       have up:∀ b o,b ≠ D→s6.heap.get? b=some o→(s6.heap.update D (Obj.mapSeq (·.push v))).get? b=some o:=fun b o hb e=>(Heap.get?_update_other s6.heap (Obj.mapSeq (·.push v)) (Ne.symm hb)).trans e
       have I7:Inv (cxC X ts M scope C fp s H) [] σ4 H6 { s6 with heap:=s6.heap.update D (Obj.mapSeq (·.push v)),toks:=s6.toks } :=
         (I6.pins_of (pins':=[]) (fun p hp=>by simp at hp)).turned up pD.2.1 hDC (.inr (by show s.heap.objs.size≤D;omega)) (fun x a h=>neC x a h) (fun p hp=>by simp [cxC]at hp)
       refine⟨m',hm,i+1,σ4,H6,ys++[y],its++[v],_,I7,d4,?_,(keepT I6).2,pD.2.1,q,rv1.append (.cons r6 .nil),w'⟩
       exact T.keep _ _ _ (keepT I6).1 fun b hb o e=>up b o (fun z=>nDfp (z ▸ hb)) e
 exact codeAny_compStart_list loop (T.self _ 0 _ _ _ (T.keep _ _ _ t0 fun b _ o e=>old b o e) loop)
theorem qaan {tg iter elt:Expr} {ifs:List Expr} {pos:Pos} {wi:TI} {g:TG} {tt:TT} {te:TE} (c:qax X ts M scope) (hc:X.calm=true) (hi:PI X tg iter wi) (hg:∀ C fp s₀ H₀,PG (cxC X ts M scope C fp s₀ H₀) tg g) (hf:∀ C fp s₀ H₀,PF (cxC X ts M scope C fp s₀ H₀) ifs tt)
   (he:∀ C fp s₀ H₀,PE (cxC X ts M scope C fp s₀ H₀) elt te) (hs:∀ x,foldedSetIterable iter X.env x=pure x:=by intro _;rfl):PE X (.ListComp elt [⟨tg,iter,ifs,0⟩] scope pos) (tLC ts.length wi g tt te):=by
 intro pins s σ H Q I h
 rw[eval_ListComp]
 refine wpAny_comprehension_free (use:=none) rfl hs (qlm (c.has I.ok)) c.kind c.loc (thn (hi pins s σ H _ I h) fun v s1 h1=>thn h1 fun itv s2 h2=> ?_)
 obtain ⟨it,fp,tn,J,H2,rfl,I2,T,t0,f0,hw⟩:=h2
 refine qr7 (RR:=fun acc C=>compPost (model X.prog X.w) X.A X.xe none (EP X pins σ Q) acc C) c hc hg hf he I2 T t0 f0 hw ?_
 intro D C H' s' ys m I' hn n1 n2 n3 n4 n5 hD fin
 exact⟨m,hn,fun h' hs'=>⟨.ref D,_,I'.turned (t':=s'.toks) (fun b o hb e=>(hs'.2 b hb).trans e) n4 n1 (.inr n3) n2 n5,rfl,fin D hD⟩⟩
theorem qzo {i:Nat} {x:Str} {tg iter elt:Expr} {ifs:List Expr} {pos pos' spos:Pos} {wi:TI} {g:TG} {tt:TT} {te:TE} (hN:X.N.Nodup) (hix:X.N[i]? =some x) (hx:Loc X.env.scope x) (c:qax X ts M scope) (hc:X.calm=true) (hi:PI X tg iter wi) (hg:∀ C fp s₀ H₀,PG (cxC X ts M scope C fp s₀ H₀) tg g) (hf:∀ C fp s₀ H₀,PF (cxC X ts M scope C fp s₀ H₀) ifs tt)
   (he:∀ C fp s₀ H₀,PE (cxC X ts M scope C fp s₀ H₀) elt te) (hs:∀ x,foldedSetIterable iter X.env x=pure x:=by intro _;rfl) (hsw:swapsWith (.ListComp elt [⟨tg,iter,ifs,0⟩] scope pos) (some (.Name x pos')) spos.line X.env=pure true:=by rfl)
   (hfn:X.fn x=true∨X.env.scope.names.lookup x=some .local:=by first | exact .inl rfl | exact .inr rfl | assumption) :
   PS X (.Assign [.Name x pos'] (.ListComp elt [⟨tg,iter,ifs,0⟩] scope pos) spos) (q2i (tLC ts.length wi g tt te) (qv0 i)):=by
 intro pins s σ H Dn I h
 rw[exec_Assign_Name_used _ _ _ _ hsw]
 refine wpAny_bind (wpAny_standAt (wpAny_bind ?_))
 show wpAny _ X.A (do let _ ← comprehension (.ListComp elt [⟨tg,iter,ifs,0⟩] scope pos) scope X.env _ (newList []) false (eval iter X.env) (some (assign (.Name x pos') X.env))) _ _ s
 refine wpAny_bind (wpAny_mono (wpAny_comprehension_free (use:=some (assign (.Name x pos') X.env)) (Q:=fun _ s'=>SP X pins Dn .next s') rfl hs (qlm (c.has I.ok)) c.kind c.loc
   (thn (hi pins s σ H _ I h) fun v s1 h1=>thn h1 fun itv s2 h2=> ?_)) (fun _ s' hq=>wpAny_pure (wpAny_pure hq)) fun _ _ e=>e)
 obtain ⟨it,fp,tn,J,H2,rfl,I2,T,t0,f0,hw⟩:=h2
 refine qr7 (RR:=fun acc C=>compPost (model X.prog X.w) X.A X.xe (some (assign (.Name x pos') X.env)) (fun _ s'=>SP X pins Dn .next s') acc C) c hc hg hf he I2 T t0 f0 hw ?_
 intro D C H' s' ys m I' hn n1 n2 n3 n4 n5 hD fin
 show wpAny _ X.A (assign (.Name x pos') X.env (.ref D)) _ _ _
 refine wpAny_assign_Name (qir I' hN hix hx (v:=.ref D) rfl (fun s'' I'' hsb=> ?_) hfn)
 obtain ⟨a,hsb,ha⟩:=hsb
 have hCa:C ≠ a:=by
   rcases ha with rfl | ha
   · exact n1
   · exact(n2 x a ha).symm
 refine⟨m,hn.sameBut hsb hCa,fun h' hs'=>⟨_,_,I''.turned (t':=s''.toks) (fun b o hb e=>(hs'.2 b hb).trans e) n4 n1 (.inr n3) n2 n5,fin D hD⟩⟩
end
theorem qaao {J:It} {k n:Nat} {g:TG} {tt:TT} {te:TE} {σ:St} {H:Hp} {Fin:List V→Hp→Prop} (Pv:Nat→List V→Hp→Prop) (hk:k < sizeLine) (h0:Pv 0 [] H) (hl:∀ i ys H,i≤k→Pv i ys H→ys.length≤i)
   (stop:∀ ys H,Pv k ys H→J.stop k H) (go:∀ i ys H,i < k→Pv i ys H→J.go i H)
   (hs:∀ i ys H,i < k→Pv i ys H→∀ x H',J.yld i H x H'→g x (List.replicate n none++σ) H' fun σ2 H2=>σ2.drop n=σ∧tt σ2 H2 fun c H3=>if c=true then te σ2 H3 fun y H4=>Pv (i+1) (ys++[y]) H4 else Pv (i+1) ys H3)
   (hd:∀ ys H,Pv k ys H→Fin ys H):LcW J n g tt te σ H Fin:=by
 refine⟨fun i m ys H=>m=k - i∧i≤k∧Pv i ys H,⟨k,by simp,Nat.zero_le _,h0⟩,?_⟩
 rintro i m ys H ⟨rfl,hi,p⟩
 have hz:=hl i ys H hi p
 refine⟨by omega,?_⟩
 by_cases hlt:i < k
 · exact .inr ⟨go i ys H hlt p,Pv (i+1),fun ys' H' q=>⟨_,(by omega:k - (i+1) < k - i),rfl,hlt,q⟩,fun x H' y=>hs i ys H hlt p x H' y⟩
 · have e:i=k:=by omega
   subst e
   exact .inl ⟨stop ys H p,hd ys H p⟩
section
variable {X:Cx} {pins:List (Addr × Obj)} {σ:St} {H:Hp} {s:Shared}
theorem Inv.turnedT {h':Heap} {t':Nat} {ch:List Addr} {vs:List V} {its:List Value} (I:Inv X pins σ H s) (hf:∀ b ∈ ch,qei X pins H b) (k:∀ b o,b ∉ ch→s.heap.get? b=some o→h'.get? b=some o)
   (ht:∀ b ∈ ch,∃ o,h'.get? b=some o) (rv:Vals vs its) (hz:vs.length≤sizeLine) (new:IsTup h' s.heap.objs.size its.toArray):Inv X pins σ (upd H s.heap.objs.size (.tup vs)) { s with heap:=h',toks:=t' }:=by
 have hn:H s.heap.objs.size=none:=I.hok.fresh (Nat.le_refl _)
 have nch:∀ b u,H b=some u→b ∉ ch:=fun b u e z=>by rw[(hf b z).1]at e;cases e
 have np:∀ b o,s.heap.get? b=some o→b ≠ s.heap.objs.size:=fun b o e=>Nat.ne_of_lt (Heap.lt_size e)
 refine I.step (g':=s.gens) (d':=s.drawn) (ch:=ch) (fun b hb=>⟨(hf b hb).2.2.2.1,(hf b hb).2.1,(hf b hb).2.2.2.2.1,(hf b hb).2.2.2.2.2⟩) (fun b o _ _ hc e _=>k b o hc e) (fun b o _ _ hc e _=>⟨o.slots,k b o hc e⟩) (fun b o _ e n=>by rw[qc (np b o e)];exact n)
   (fun b o hc e=>⟨o,k b o hc e⟩) (fun b xs e=>by rw[qc (q9 e hn)];exact e) (fun b o u e=>by rw[qc (q9 e hn)];exact e) (fun b ps e=>⟨#[],by rw[qc (q9 e hn),e];simp⟩) (fun m hm=> ?_) (fun b u e=> ?_) I.bare
 · obtain ⟨o,es,ep,ho,r⟩:=hm
   exact⟨o,es,ep,k _ o (fun z=>(hf _ z).2.1 rfl) ho,r⟩
 · by_cases hb:b=s.heap.objs.size
   · subst hb
     rw[qi]at e;cases e
     exact⟨hz,its,rv,new⟩
   · rw[qc hb]at e
     refine(I.hok b u e).stay (fun c v hc q=>k c v ?_ q) (fun c q=>by rw[qc (q9 q hn)];exact q) fun c xs q=>by rw[qc (q9 q hn)];exact q
     rcases hc with z | z
     · rw[z];exact nch b u e
     · exact nch c _ z
theorem Inv.turnedN {h':Heap} {t':Nat} {ch:List Addr} (I:Inv X pins σ H s) (hf:∀ b ∈ ch,qei X pins H b) (k:∀ b o,b ∉ ch→s.heap.get? b=some o→h'.get? b=some o):Inv X pins σ H { s with heap:=h',toks:=t' }:=by
 have nch:∀ b u,H b=some u→b ∉ ch:=fun b u e z=>by rw[(hf b z).1]at e;cases e
 refine I.step (g':=s.gens) (d':=s.drawn) (ch:=ch) (fun b hb=>⟨(hf b hb).2.2.2.1,(hf b hb).2.1,(hf b hb).2.2.2.2.1,(hf b hb).2.2.2.2.2⟩) (fun b o _ _ hc e _=>k b o hc e) (fun b o _ _ hc e _=>⟨o.slots,k b o hc e⟩) (fun b o _ e n=>n)
   (fun b o hc e=>⟨o,k b o hc e⟩) (fun b xs e=>e) (fun b o u e=>e) (fun b ps e=>⟨#[],by rw[e];simp⟩) (fun m hm=> ?_) (fun b u e=> ?_) I.bare
 · obtain ⟨o,es,ep,ho,r⟩:=hm
   exact⟨o,es,ep,k _ o (fun z=>(hf _ z).2.1 rfl) ho,r⟩
 · refine(I.hok b u e).stay (fun c v hc q=>k c v ?_ q) (fun c q=>q) fun c xs q=>q
   rcases hc with z | z
   · rw[z];exact nch b u e
   · exact nch c _ z
end
noncomputable def Ite (K:PySem.W.Frag) (a:Addr):It :=
 ⟨fun i H=>∃ xs x,SqL K H a xs∧xs[i]? =some x,
  fun i H x H'=>∃ (p:Addr) (y:V),H p=none∧x=.ref p∧H'=upd H p (.tup [.int i,y])∧∀ xs,SqL K H a xs→xs[i]? =some y,
  fun i H=>∃ xs,SqL K H a xs∧xs.length≤i⟩
theorem qxu {P:Program} {w:World} {K:PySem.W.Frag} {elts:List Expr} {k:Nat} {pos:Pos} (a e it:Addr) (hne:e ≠ it) :
   Turn P w K (.Tuple elts k pos) (Ite K a) [e,it] e (fun i h=>(∃ old,IsEnum h e it i old)∧h.IsListIter it a i) where
 mem:=by simp
 obj :=fun i h st b hb=>by
   obtain ⟨⟨old,he⟩,hi⟩:=st
   rcases List.mem_cons.mp hb with rfl | hb
   · exact⟨_,he,fun v z=>by cases z⟩
   · have e:b=it:=by simpa using hb
     subst e
     obtain ⟨o,e,c,d⟩:=hi
     exact⟨o,e,fun v z=>by rw[d]at z;cases z⟩
 keep:=fun i h h' st kk=>by
   obtain ⟨⟨old,he⟩,hi⟩:=st
   exact⟨⟨old,kk e (by simp) _ he⟩,hi.at fun o q=>kk it (by simp) o q⟩
 item := by
   intro X hP hw hK hc i pins s σ H E I hf st hg
   subst hP hw hK
   obtain ⟨⟨old,he⟩,hi⟩:=st
   obtain ⟨xs,x,hq,hx⟩:=hg
   obtain ⟨its,rv,p,hz⟩:=I.list hq
   obtain ⟨u,hu,ru⟩:=rv.get hx
   refine wpAny_pyNext_enum_item he hi p.isList (x:=u) (by simpa using hu) hne fun h1 ho hi1 htup hsz hk=> ?_
   refine⟨_,rfl,wpAny_letOwnedTupleGo_enum ho fun h2 he2 hs2=> ?_⟩
   have nez:s.heap.objs.size ≠ e:=Nat.ne_of_gt (Heap.lt_size he)
   have J:=I.turnedT (h':=h2) (t':=s.toks+1) (vs:=[.int i,x]) (its:=[.int i s.toks,u]) (ch:=[e,it]) hf (fun b o hb q=>(hs2.2 b (fun z=>hb (by simp [z]))).trans (hk b o (fun z=>hb (by simp [z])) (fun z=>hb (by simp [z])) q))
     (fun b hb=>by
       rcases List.mem_cons.mp hb with rfl | hb
       · exact⟨_,he2⟩
       · have z:b=it:=by simpa using hb
         subst z
         obtain ⟨o,q,_⟩:=hi1
         exact⟨o,(hs2.2 b (Ne.symm hne)).trans q⟩) (.cons ⟨_,rfl⟩ (.cons ru .nil)) (by show 2≤sizeLine;decide) ⟨_,(hs2.2 _ nez).trans htup,rfl,_,rfl⟩
   have hn:H s.heap.objs.size=none:=I.hok.fresh (Nat.le_refl _)
   refine⟨.ref s.heap.objs.size,_,J,rfl,⟨_,x,hn,rfl,rfl,fun ys hy=>by rw[I.list_inj hy hq];exact hx⟩,⟨⟨_,he2⟩,?_⟩,fun b hb=> ?_⟩
   · obtain ⟨o,q,r⟩:=hi1
     exact⟨o,(hs2.2 _ (Ne.symm hne)).trans q,r⟩
   · have z:=(hf b hb).1
     rw[qc]
     · exact z
     · rcases List.mem_cons.mp hb with rfl | hb
       · exact Ne.symm nez
       · have z:b=it:=by simpa using hb
         subst z
         obtain ⟨o,q,_⟩:=hi
         exact Nat.ne_of_lt (Heap.lt_size q)
 done:=by
   intro X hP hw hK hc i pins s σ H E I hf st hg
   subst hP hw hK
   obtain ⟨⟨old,he⟩,hi⟩:=st
   obtain ⟨xs,hq,hx⟩:=hg
   obtain ⟨its,rv,p,hz⟩:=I.list hq
   have hl:=rv.length
   exact wpAny_pyNext_enum_end (I.ok.hd hc) he hi p.isList (by simp;omega) fun h' eb=>⟨rfl,I.turnedN (t':=s.toks) hf fun b o hb q=>eb b o (fun z=>hb (by simp [z])) q⟩
 self:=fun _ _ s Q _ st h=>by
   obtain ⟨⟨old,he⟩,hi⟩:=st
   exact wpAny_pyIter_enum he h
section
variable {X:Cx}
noncomputable def qaap (K:PySem.W.Frag) (ta:TA):TI:=fun σ H R=>ta σ H fun vs H1=>∃ a,vs=[.ref a]∧(∃ xs,SqL K H1 a xs)∧R (Ite K a) H1
theorem q2y {elts:List Expr} {k:Nat} {pos':Pos} {a:Expr} {ta:TA} {p pos:Pos} (hg:Gl X "enumerate") (hm:X.mg "enumerate"=none) (ha:PA X [a] ta) (hs:starEach [a] X.env=[(false,eval a X.env)]:=by rfl) :
   PI X (.Tuple elts k pos') (.Call (.Name "enumerate" p) [a] [] pos) (qaap X.K ta):=by
 intro pins s σ H R I h
 refine Call_ (qgh I hg hm qp9 (PyProof.Rows.callWith_type1 (thn (ha pos pins s σ H _ I h) fun us s1 ⟨vs,H1,I1,r1,q1⟩=> ?_) hs rfl))
 obtain ⟨l,e,⟨xs,hq⟩,q⟩:=q1
 subst e
 obtain ⟨u,rfl,ru⟩:=r1.one
 cases ru
 obtain ⟨its,rv,pl,hz⟩:=I1.list hq
 refine call_enumerate_list pl.isList fun h' he hi hsz hk=> ?_
 refine wpAny_pyIter_enum he ?_
 have hne:s1.heap.objs.size+1 ≠ s1.heap.objs.size:=Nat.succ_ne_self _
 have fr:∀ b,s1.heap.objs.size≤b→H1 b=none:=fun b hb=>I1.hok.fresh hb
 refine⟨_,[s1.heap.objs.size+1,s1.heap.objs.size],_,_,H1,rfl,I1.kept (t':=s1.toks) hk,qxu l _ _ hne,⟨⟨_,he⟩,hi⟩,fun b hb=> ?_,q⟩
 have hb':s1.heap.objs.size≤b:=by
   rcases List.mem_cons.mp hb with rfl | hb
   · exact Nat.le_succ _
   · have z:b=s1.heap.objs.size:=by simpa using hb
     subst z;exact Nat.le_refl _
 exact I1.fpOk hb' (fr b hb')
end
noncomputable def q8 (b:Bool) (h:Heap) (it l:Addr) (i:Nat):Prop:=if b=true then h.IsListIter it l i else h.IsTupleIter it l i
noncomputable def qcv (b:Bool) (h:Heap) (l:Addr) (items:Array Value):Prop:=if b=true then h.IsList l items else h.IsTuple l items
theorem q8.at' {b:Bool} {h h':Heap} {it l:Addr} {i:Nat} (x:q8 b h it l i) (k:∀ o,h.get? it=some o→h'.get? it=some o):q8 b h' it l i:=by
 cases b with
 | true=>exact Heap.IsListIter.at (show h.IsListIter it l i from x) k
 | false=>exact Heap.IsTupleIter.at (show h.IsTupleIter it l i from x) k
theorem q8.here {b:Bool} {h:Heap} {it l:Addr} {i:Nat} (x:q8 b h it l i):∃ o,h.get? it=some o∧∀ v,o.data ≠ .cell v:=by
 cases b with
 | true =>
   obtain ⟨o,e,c,d⟩:=(show h.IsListIter it l i from x)
   exact⟨o,e,fun v z=>by rw[d]at z;cases z⟩
 | false =>
   obtain ⟨o,e,c,d⟩:=(show h.IsTupleIter it l i from x)
   exact⟨o,e,fun v z=>by rw[d]at z;cases z⟩
theorem qcv.at' {b:Bool} {h h':Heap} {l:Addr} {items:Array Value} (x:qcv b h l items) (k:∀ o,h.get? l=some o→h'.get? l=some o):qcv b h' l items:=by
 cases b with
 | true=>obtain ⟨o,e,r⟩:=(show h.IsList l items from x);exact⟨o,k o e,r⟩
 | false=>obtain ⟨o,e,r⟩:=(show h.IsTuple l items from x);exact⟨o,k o e,r⟩
section
variable {prog:Program} {w:World} {A:Around} {E:Value→Shared→Prop} {s:Shared}
theorem qhk {it l:Addr} {i:Nat} {items:Array Value} {x:Value} {Q:Value→Shared→Prop} (hit:s.heap.IsTupleIter it l i) (hl:s.heap.IsTuple l items) (hx:items[i]? =some x)
   (hQ:∀ h',h'.IsTupleIter it l (i+1)→Heap.SameBut it s.heap h'→Q x { s with heap:=h' }):wpAny (model prog w) A (Builtin.SmallTypes.nextOf (.ref it)) Q E s:=by
 obtain ⟨o,ho,hc,hd⟩:=id hit
 obtain ⟨ol,hol,_,nl,hdl⟩:=hl
 unfold Builtin.SmallTypes.nextOf
 refine wpAny_bind (wpAny_callSpecial?_slot (name:=Str.ofString "__next__") hit.typeIs F.slot_tuple_iterator_next (wpAny_call_entry F.slot_tuple_iterator_next hit.typeIs F.entry_tuple_iterator_next ?_ (F.args_tuple_iterator_next_1 _)))
 show wpAny _ _ (field (.ref it) 0 >>= _) _ _ s
 refine wpAny_bind (wpAny_field ho hd (x:=.ref l) rfl ?_)
 show wpAny _ _ (if (Value.ref l==Value.none)=true then _ else _) _ _ s
 rw[if_neg (by simp:¬ ((Value.ref l==Value.none)=true))]
 show wpAny _ _ (field (.ref it) 1 >>= _) _ _ s
 refine wpAny_bind (wpAny_field ho hd (x:=.int i 0) rfl ?_)
 show wpAny _ _ (seqItems? (.ref l) >>= _) _ _ s
 refine wpAny_bind (wpAny_seqItems hol hdl ?_)
 simp only [Int.toNat_natCast,hx]
 refine wpAny_bind (wpAny_setField ho hd (by simp) (wpAny_pure ⟨x,rfl,wpAny_pure (hQ _ ?_ (Heap.SameBut.update ..))⟩))
 exact⟨_,Heap.get?_update_self _ ho (Obj.isFreed_of_fields (Obj.data_mapFields hd _)),(Obj.cls_mapFields ..).trans hc,by rw[Obj.data_mapFields hd];simp [rawInt]⟩
end
section
variable {prog:Program} {w:World} {A:Around} {E:Value→Shared→Prop} {s:Shared}
theorem qiw {it l:Addr} {i:Nat} {items:Array Value} {Q:Value→Shared→Prop} (hh:A.handled=none) (hit:s.heap.IsTupleIter it l i) (hl:s.heap.IsTuple l items) (hx:items[i]? =none)
   (hE:∀ h' e,Heap.ExtBut it s.heap h'→(∃ o,h'.get? e=some o∧o.cls=.type "StopIteration")→E (.ref e) { s with heap:=h' }):wpAny (model prog w) A (Builtin.SmallTypes.nextOf (.ref it)) Q E s:=by
 obtain ⟨o,ho,hc,hd⟩:=id hit
 obtain ⟨ol,hol,_,nl,hdl⟩:=hl
 unfold Builtin.SmallTypes.nextOf
 refine wpAny_bind (wpAny_callSpecial?_slot (name:=Str.ofString "__next__") hit.typeIs F.slot_tuple_iterator_next (wpAny_call_entry F.slot_tuple_iterator_next hit.typeIs F.entry_tuple_iterator_next ?_ (F.args_tuple_iterator_next_1 _)))
 show wpAny _ _ (field (.ref it) 0 >>= _) _ _ s
 refine wpAny_bind (wpAny_field ho hd (x:=.ref l) rfl ?_)
 show wpAny _ _ (if (Value.ref l==Value.none)=true then _ else _) _ _ s
 rw[if_neg (by simp:¬ ((Value.ref l==Value.none)=true))]
 show wpAny _ _ (field (.ref it) 1 >>= _) _ _ s
 refine wpAny_bind (wpAny_field ho hd (x:=.int i 0) rfl ?_)
 show wpAny _ _ (seqItems? (.ref l) >>= _) _ _ s
 refine wpAny_bind (wpAny_seqItems hol hdl ?_)
 simp only [Int.toNat_natCast,hx]
 refine wpAny_bind (wpAny_rule (wpAny_bind (wpAny_setField ho hd (by simp) ?_)))
 show wpAny _ _ (newExc (.type "StopIteration") [] >>= _) _ _ _
 refine wpAny_bind ?_
 simp only [newExc,newTuple]
 refine wpAny_bind (wpAny_newObj_type ?_ (by size_fits))
 refine wpAny_bind (m:=firstArgMember _ _) (wpAny_of_eq (a:=Value.none) (by first | rfl | (simp only [firstArgMember];rfl)) ?_)
 refine wpAny_newObj_type ?_ (by size_fits)
 simp only [raiseNew]
 refine wpAny_bind (wpAny_handled ?_)
 first | rw[show A.in1.handled=none from hh] | rw[hh]
 refine wpAny_bind (wpAny_pure (wpAny_throw ?_))
 exact hE _ _ (((Heap.SameBut.update ..).extBut.push _).push _) ⟨_,Heap.get?_push_size _ rfl,rfl⟩
theorem qfb {b:Bool} {it l:Addr} {i:Nat} {items:Array Value} {x:Value} {Q:Value→Shared→Prop} (hit:q8 b s.heap it l i) (hl:qcv b s.heap l items) (hx:items[i]? =some x)
   (hQ:∀ h',q8 b h' it l (i+1)→Heap.SameBut it s.heap h'→Q x { s with heap:=h' }):wpAny (model prog w) A (Builtin.SmallTypes.nextOf (.ref it)) Q E s:=by
 cases b with
 | true=>exact wpAny_nextOf_list_item (show s.heap.IsListIter it l i from hit) (show s.heap.IsList l items from hl) hx fun h' a b=>hQ h' a b
 | false=>exact qhk (show s.heap.IsTupleIter it l i from hit) (show s.heap.IsTuple l items from hl) hx fun h' a b=>hQ h' a b
theorem qln {b:Bool} {it l:Addr} {i:Nat} {items:Array Value} {Q:Value→Shared→Prop} (hh:A.handled=none) (hit:q8 b s.heap it l i) (hl:qcv b s.heap l items) (hx:items[i]? =none)
   (hE:∀ h' e,Heap.ExtBut it s.heap h'→(∃ o,h'.get? e=some o∧o.cls=.type "StopIteration")→E (.ref e) { s with heap:=h' }):wpAny (model prog w) A (Builtin.SmallTypes.nextOf (.ref it)) Q E s:=by
 cases b with
 | true=>exact wpAny_nextOf_list_end hh (show s.heap.IsListIter it l i from hit) (show s.heap.IsList l items from hl) hx hE
 | false=>exact qiw hh (show s.heap.IsTupleIter it l i from hit) (show s.heap.IsTuple l items from hl) hx hE
theorem qlo {b1 b2:Bool} {z TI TO i1 i2 l1 l2:Addr} {k1 k2:Nat} {xs ys:Array Value} {x y a b:Value} {Q:Value→Shared→Prop} (D:ZipApart z TI TO i1 i2 l1 l2)
   (hz:IsZip s.heap z TI TO .none) (hTI:IsPair s.heap TI (.ref i1) (.ref i2)) (hTO:IsPair s.heap TO a b) (h1:q8 b1 s.heap i1 l1 k1) (h2:q8 b2 s.heap i2 l2 k2) (hl1:qcv b1 s.heap l1 xs) (hl2:qcv b2 s.heap l2 ys) (hx:xs[k1]? =some x) (hy:ys[k2]? =some y)
   (hQ:∀ h',IsZip h' z TI TO (rawInt s.heap.objs.size)→IsPair h' TO x y→q8 b1 h' i1 l1 (k1+1)→q8 b2 h' i2 l2 (k2+1)→IsPair h' s.heap.objs.size x y→h'.objs.size=s.heap.objs.size+1 →
     (∀ c o,c ≠ z→c ≠ TO→c ≠ i1→c ≠ i2→s.heap.get? c=some o→h'.get? c=some o)→Q (.ref s.heap.objs.size) { s with heap:=h' }) :
   wpAny (model prog w) A (Builtin.«zip.__next__» ⟨[.ref z],[]⟩) (fun fin s'=>∃ v,fin=.done (.ret v)∧Q v s') E s:=by
 show wpAny _ _ (field (.ref z) 2 >>= _) _ _ _
 refine wpAny_bind (wpAny_field hz rfl (x:=.bool false) rfl ?_)
 show wpAny _ _ (field (.ref z) 3 >>= _) _ _ _
 refine wpAny_bind (wpAny_field hz rfl (x:=.ref TI) rfl ?_)
 refine wpAny_bind (wpAny_seqItems hTI rfl ?_)
 show wpAny _ _ (Builtin.SmallTypes.ownedTupleIsFree (.ref z) >>= _) _ _ _
 refine wpAny_bind ?_
 unfold Builtin.SmallTypes.ownedTupleIsFree
 refine wpAny_bind (wpAny_field hz rfl (x:=.none) rfl (wpAny_pure ?_))
 simp only [if_true]
 refine wpAny_bind (wpAny_rule ?_)
 refine wpAny_bind (wpAny_field hz rfl (x:=.ref TO) rfl ?_)
 refine wpAny_bind (wpAny_setField_rec hz (by simp) fun h₁ hz₁ hs₁=> ?_)
 replace hz₁:IsZip h₁ z TI TO .ellipsis:=hz₁
 refine wpAny_bind ?_
 simp only [List.zipIdx_cons,List.zipIdx_nil,List.forIn_cons,List.forIn_nil]
 refine wpAny_bind (wpAny_bind (wpAny_onRaise ?_))
 show wpAny _ _ (Builtin.SmallTypes.nextOf (.ref i1) >>= _) _ _ _
 refine wpAny_bind (qfb (h1.at' fun o e=>hs₁.extBut _ _ D.i1z e) (hl1.at' fun o e=>hs₁.extBut _ _ D.l1z e) hx fun h₂ h1₂ hs₂=>wpAny_pure ?_)
 have hTO₂:IsPair h₂ TO a b:=hs₂.extBut _ _ D.TOi1 (hs₁.extBut _ _ D.TOz hTO)
 refine wpAny_bind (wpAny_seqItems hTO₂ rfl ?_)
 refine wpAny_bind (wpAny_updateSeq_pair hTO₂ fun h₃ hTO₃ hs₃=> ?_)
 replace hTO₃:IsPair h₃ TO x b:=hTO₃
 refine wpAny_bind (wpAny_letGo (wpAny_pure ?_))
 refine wpAny_bind (wpAny_bind (wpAny_onRaise ?_))
 show wpAny _ _ (Builtin.SmallTypes.nextOf (.ref i2) >>= _) _ _ _
 refine wpAny_bind (qfb (h2.at' fun o e=>hs₃.extBut _ _ D.TOi2.symm (hs₂.extBut _ _ D.i12.symm (hs₁.extBut _ _ D.i2z e))) (hl2.at' fun o e=>hs₃.extBut _ _ D.l2TO (hs₂.extBut _ _ D.l2i1 (hs₁.extBut _ _ D.l2z e))) hy fun h₄ h2₄ hs₄=>wpAny_pure ?_)
 have hTO₄:IsPair h₄ TO x b:=hs₄.extBut _ _ D.TOi2 hTO₃
 refine wpAny_bind (wpAny_seqItems hTO₄ rfl ?_)
 refine wpAny_bind (wpAny_updateSeq_pair hTO₄ fun h₅ hTO₅ hs₅=> ?_)
 replace hTO₅:IsPair h₅ TO x y:=hTO₅
 refine wpAny_bind (wpAny_letGo (wpAny_pure (wpAny_pure ?_)))
 refine wpAny_bind (wpAny_seqItems hTO₅ rfl ?_)
 refine wpAny_bind (wpAny_newTuple ?_)
 have hsz:h₅.objs.size=s.heap.objs.size:=by rw[hs₅.1,hs₄.1,hs₃.1,hs₂.1,hs₁.1]
 have hz₅:IsZip h₅ z TI TO .ellipsis:=hs₅.extBut _ _ D.TOz.symm (hs₄.extBut _ _ D.i2z.symm (hs₃.extBut _ _ D.TOz.symm (hs₂.extBut _ _ D.i1z.symm hz₁)))
 have hk₅:∀ c o,c ≠ z→c ≠ TO→c ≠ i1→c ≠ i2→s.heap.get? c=some o→h₅.get? c=some o:=fun c o c1 c2 c3 c4 e=>hs₅.extBut _ _ c2 (hs₄.extBut _ _ c4 (hs₃.extBut _ _ c2 (hs₂.extBut _ _ c3 (hs₁.extBut _ _ c1 e))))
 have h1₅:q8 b1 h₅ i1 l1 (k1+1):=h1₂.at' fun o e=>hs₅.extBut _ _ D.TOi1.symm (hs₄.extBut _ _ D.i12 (hs₃.extBut _ _ D.TOi1.symm e))
 have h2₅:q8 b2 h₅ i2 l2 (k2+1):=h2₄.at' fun o e=>hs₅.extBut _ _ D.TOi2.symm e
 have hzlt:z < h₅.objs.size:=Heap.lt_size hz₅
 show wpAny _ _ (Builtin.SmallTypes.ownedTupleHandOut (.ref z) (.ref h₅.objs.size) >>= _) _ _ _
 refine wpAny_bind ?_
 unfold Builtin.SmallTypes.ownedTupleHandOut
 have hz₆:IsZip (h₅.push { cls:=.type "tuple",data:=.seq #[x,y] }) z TI TO .ellipsis:=Heap.get?_push_of_some _ hz₅
 refine wpAny_bind (wpAny_setField_rec hz₆ (by simp) fun h₇ hz₇ hs₇=> ?_)
 replace hz₇:IsZip h₇ z TI TO (rawInt h₅.objs.size):=hz₇
 refine wpAny_setField_rec hz₇ (by simp) fun h₈ hz₈ hs₈=> ?_
 replace hz₈:IsZip h₈ z TI TO (rawInt h₅.objs.size):=hz₈
 have up:∀ c o,c ≠ z→h₅.get? c=some o→h₈.get? c=some o:=fun c o c1 e=>hs₈.extBut _ _ c1 (hs₇.extBut _ _ c1 (Heap.get?_push_of_some _ e))
 have hT₈:IsPair h₈ h₅.objs.size x y:=hs₈.extBut _ _ (Nat.ne_of_gt hzlt) (hs₇.extBut _ _ (Nat.ne_of_gt hzlt) (Heap.get?_push_size _ rfl))
 have hz8:h₈.objs.size=h₅.objs.size+1:=by rw[hs₈.1,hs₇.1,Heap.size_push]
 rw[hsz]at hz₈ hT₈ hz8
 refine wpAny_pure ⟨_,rfl,?_⟩
 show Q (.ref h₅.objs.size) _
 rw[hsz]
 exact hQ h₈ hz₈ (up _ _ D.TOz hTO₅) (h1₅.at' fun o e=>up _ o D.i1z e) (h2₅.at' fun o e=>up _ o D.i2z e) hT₈ hz8 fun c o c1 c2 c3 c4 e=>up c o c1 (hk₅ c o c1 c2 c3 c4 e)
theorem qns {b1 b2:Bool} {z TI TO i1 i2 l1 l2:Addr} {k1 k2:Nat} {xs ys:Array Value} {a b:Value} {Q:Fin→Shared→Prop} (hh:A.handled=none) (D:ZipApart z TI TO i1 i2 l1 l2)
   (hz:IsZip s.heap z TI TO .none) (hTI:IsPair s.heap TI (.ref i1) (.ref i2)) (hTO:IsPair s.heap TO a b) (h1:q8 b1 s.heap i1 l1 k1) (h2:q8 b2 s.heap i2 l2 k2) (hl1:qcv b1 s.heap l1 xs) (hl2:qcv b2 s.heap l2 ys) (hend:xs[k1]? =none∨ys[k2]? =none)
   (hE:∀ h' e,(∀ c o,c ≠ z→c ≠ TO→c ≠ i1→c ≠ i2→s.heap.get? c=some o→h'.get? c=some o)→(∃ o,h'.get? e=some o∧o.cls=.type "StopIteration")→E (.ref e) { s with heap:=h' }) :
   wpAny (model prog w) A (Builtin.«zip.__next__» ⟨[.ref z],[]⟩) Q E s:=by
 show wpAny _ _ (field (.ref z) 2 >>= _) _ _ _
 refine wpAny_bind (wpAny_field hz rfl (x:=.bool false) rfl ?_)
 show wpAny _ _ (field (.ref z) 3 >>= _) _ _ _
 refine wpAny_bind (wpAny_field hz rfl (x:=.ref TI) rfl ?_)
 refine wpAny_bind (wpAny_seqItems hTI rfl ?_)
 show wpAny _ _ (Builtin.SmallTypes.ownedTupleIsFree (.ref z) >>= _) _ _ _
 refine wpAny_bind ?_
 unfold Builtin.SmallTypes.ownedTupleIsFree
 refine wpAny_bind (wpAny_field hz rfl (x:=.none) rfl (wpAny_pure ?_))
 simp only [if_true]
 refine wpAny_bind (wpAny_rule ?_)
 refine wpAny_bind (wpAny_field hz rfl (x:=.ref TO) rfl ?_)
 refine wpAny_bind (wpAny_setField_rec hz (by simp) fun h₁ hz₁ hs₁=> ?_)
 replace hz₁:IsZip h₁ z TI TO .ellipsis:=hz₁
 refine wpAny_bind ?_
 simp only [List.zipIdx_cons,List.zipIdx_nil,List.forIn_cons,List.forIn_nil]
 refine wpAny_bind (wpAny_bind (wpAny_onRaise ?_))
 show wpAny _ _ (Builtin.SmallTypes.nextOf (.ref i1) >>= _) _ _ _
 have h1₁:=h1.at' (h':=h₁) fun o e=>hs₁.extBut _ _ D.i1z e
 have hl1₁:=hl1.at' (h':=h₁) fun o e=>hs₁.extBut _ _ D.l1z e
 cases hx:xs[k1]? with
 | none =>
   refine wpAny_bind (qln hh h1₁ hl1₁ hx fun h₂ e hs₂ he=> ?_)
   obtain ⟨oe,hoe,hce⟩:=he
   have hz₂:IsZip h₂ z TI TO .ellipsis:=hs₂ _ _ D.i1z.symm hz₁
   have hez:e ≠ z:=fun x=>by subst x;rw[hz₂]at hoe;cases hoe;simp at hce
   exact wpAny_setField_rec hz₂ (by simp) fun h₃ _ hs₃=>hE h₃ e (fun c o c1 _ c3 _ x=>hs₃.extBut _ _ c1 (hs₂ _ _ c3 (hs₁.extBut _ _ c1 x))) ⟨oe,hs₃.extBut _ _ hez hoe,hce⟩
 | some x =>
   have hy:ys[k2]? =none:=by rcases hend with h | h;rw[hx]at h;cases h;exact h
   refine wpAny_bind (qfb h1₁ hl1₁ hx fun h₂ h1₂ hs₂=>wpAny_pure ?_)
   have hTO₂:IsPair h₂ TO a b:=hs₂.extBut _ _ D.TOi1 (hs₁.extBut _ _ D.TOz hTO)
   refine wpAny_bind (wpAny_seqItems hTO₂ rfl ?_)
   refine wpAny_bind (wpAny_updateSeq_pair hTO₂ fun h₃ hTO₃ hs₃=> ?_)
   refine wpAny_bind (wpAny_letGo (wpAny_pure ?_))
   refine wpAny_bind (wpAny_bind (wpAny_onRaise ?_))
   show wpAny _ _ (Builtin.SmallTypes.nextOf (.ref i2) >>= _) _ _ _
   refine wpAny_bind (qln hh (h2.at' fun o e=>hs₃.extBut _ _ D.TOi2.symm (hs₂.extBut _ _ D.i12.symm (hs₁.extBut _ _ D.i2z e))) (hl2.at' fun o e=>hs₃.extBut _ _ D.l2TO (hs₂.extBut _ _ D.l2i1 (hs₁.extBut _ _ D.l2z e))) hy fun h₄ e hs₄ he=> ?_)
   obtain ⟨oe,hoe,hce⟩:=he
   have hz₄:IsZip h₄ z TI TO .ellipsis:=hs₄ _ _ D.i2z.symm (hs₃.extBut _ _ D.TOz.symm (hs₂.extBut _ _ D.i1z.symm hz₁))
   have hez:e ≠ z:=fun x=>by subst x;rw[hz₄]at hoe;cases hoe;simp at hce
   exact wpAny_setField_rec hz₄ (by simp) fun h₅ _ hs₅=>hE h₅ e (fun c o c1 c2 c3 c4 x=>hs₅.extBut _ _ c1 (hs₄ _ _ c4 (hs₃.extBut _ _ c2 (hs₂.extBut _ _ c3 (hs₁.extBut _ _ c1 x))))) ⟨oe,hs₅.extBut _ _ hez hoe,hce⟩
theorem qr8 {b:Bool} {l:Addr} {items:Array Value} {Q:Value→Shared→Prop} (hl:qcv b s.heap l items)
   (hQ:Q (.ref s.heap.objs.size) { s with heap:=s.heap.push { cls:=.type (if b=true then "list_iterator" else "tuple_iterator"),data:=.fields #[.ref l,.int 0 0] } }):wpAny (model prog w) A (pyIter (.ref l)) Q E s:=by
 cases b with
 | true=>exact wpAny_pyIter_list (show s.heap.IsList l items from hl) hQ
 | false=>exact wpAny_pyIter_tuple (show s.heap.IsTuple l items from hl) hQ
theorem q8.new {b:Bool} {h:Heap} {l:Addr}:q8 b (h.push { cls:=.type (if b=true then "list_iterator" else "tuple_iterator"),data:=.fields #[.ref l,.int 0 0] }) h.objs.size l 0:=by
 cases b with
 | true=>exact⟨_,Heap.get?_push_size _ rfl,rfl,rfl⟩
 | false=>exact⟨_,Heap.get?_push_size _ rfl,rfl,rfl⟩
theorem qcv.push {b:Bool} {h:Heap} {l:Addr} {items:Array Value} {o:Obj} (x:qcv b h l items):qcv b (h.push o) l items:=x.at' fun _ e=>Heap.get?_push_of_some _ e
noncomputable abbrev qzp (b1:Bool) (h:Heap) (l1:Addr):Heap:=h.push { cls:=.type (if b1=true then "list_iterator" else "tuple_iterator"),data:=.fields #[.ref l1,.int 0 0] }
noncomputable abbrev qzq (b1 b2:Bool) (h:Heap) (l1 l2:Addr):Heap:=(qzp b1 h l1).push { cls:=.type (if b2=true then "list_iterator" else "tuple_iterator"),data:=.fields #[.ref l2,.int 0 0] }
noncomputable abbrev q2z (b1 b2:Bool) (h:Heap) (l1 l2:Addr):Heap:=(qzq b1 b2 h l1 l2).push { cls:=.type "tuple",data:=.seq #[.ref h.objs.size,.ref (qzp b1 h l1).objs.size] }
noncomputable abbrev q20 (b1 b2:Bool) (h:Heap) (l1 l2:Addr):Heap:=(q2z b1 b2 h l1 l2).push { cls:=.type "tuple",data:=.seq #[.none,.none] }
noncomputable abbrev qu1 (b1 b2:Bool) (h:Heap) (l1 l2:Addr):Heap:=(q20 b1 b2 h l1 l2).push { cls:=.type "zip",data:=.fields #[.none,.bool false,.bool false,.ref (qzq b1 b2 h l1 l2).objs.size,.ref (q2z b1 b2 h l1 l2).objs.size] }
theorem qlp (b1 b2:Bool) (l1 l2:Addr) (xs ys:Array Value) :
   Meets (Builtin.«zip.__new__» ⟨[.type "zip",.ref l1,.ref l2],[]⟩) (fun _ R s=>qcv b1 s.heap l1 xs∧qcv b2 s.heap l2 ys ∧
     R (.ok (.ret (.ref (q20 b1 b2 s.heap l1 l2).objs.size))) { s with heap:=qu1 b1 b2 s.heap l1 l2 }) :=
 .of_wp fun prog w A R s h=>by
   obtain ⟨hp,g,d,tk,os⟩:=s;obtain ⟨hl1,hl2,h⟩:=h
   have hsub:=sub_zip
   have hL1:qcv b1 (Shared.heap ⟨hp,g,d,tk,os⟩) l1 xs:=hl1
   have hL2:qcv b2 (Shared.heap ⟨qzp b1 hp l1,g,d,tk,os⟩) l2 ys:=qcv.push hl2
   wp_walk using qr8 hL1,qr8 hL2
   exact⟨_,rfl,h⟩
end
section
variable {prog:Program} {w:World} {A:Around} {E:Value→Shared→Prop} {s:Shared}
theorem qxv {b1 b2:Bool} {l1 l2:Addr} {xs ys:Array Value} {Q:Value→Shared→Prop} (hl1:qcv b1 s.heap l1 xs) (hl2:qcv b2 s.heap l2 ys)
   (h:∀ h',IsZip h' (s.heap.objs.size+4) (s.heap.objs.size+2) (s.heap.objs.size+3) .none→IsPair h' (s.heap.objs.size+2) (.ref s.heap.objs.size) (.ref (s.heap.objs.size+1)) →
     IsPair h' (s.heap.objs.size+3) .none .none→q8 b1 h' s.heap.objs.size l1 0→q8 b2 h' (s.heap.objs.size+1) l2 0 →
     (∀ c o,s.heap.get? c=some o→h'.get? c=some o)→Q (.ref (s.heap.objs.size+4)) { s with heap:=h' }) :
   wpAny (model prog w) A (call (.type "zip") [.ref l1,.ref l2]) Q E s:=by
 refine callType_new F.called_zip (by decide) (F.typeCall_zip_2 _ _) (F.newCall_zip_2 _ _) (fun obj=>F.args_object_init_3 obj _ _) F.entry_zip_new (qlp b1 b2 l1 l2 xs ys) ⟨hl1,hl2,?_⟩
 have z1:(qzp b1 s.heap l1).objs.size=s.heap.objs.size+1:=Heap.size_push ..
 have z2:(qzq b1 b2 s.heap l1 l2).objs.size=s.heap.objs.size+2:=by rw[Heap.size_push,z1]
 have z3:(q2z b1 b2 s.heap l1 l2).objs.size=s.heap.objs.size+3:=by rw[Heap.size_push,z2]
 have z4:(q20 b1 b2 s.heap l1 l2).objs.size=s.heap.objs.size+4:=by rw[Heap.size_push,z3]
 have g5:(qu1 b1 b2 s.heap l1 l2).get? (q20 b1 b2 s.heap l1 l2).objs.size=some _:=Heap.get?_push_size _ rfl
 have g4:(qu1 b1 b2 s.heap l1 l2).get? (q2z b1 b2 s.heap l1 l2).objs.size=some _:=Heap.get?_push_of_some _ (Heap.get?_push_size _ rfl)
 have g3:(qu1 b1 b2 s.heap l1 l2).get? (qzq b1 b2 s.heap l1 l2).objs.size=some _:=Heap.get?_push_of_some _ (Heap.get?_push_of_some _ (Heap.get?_push_size _ rfl))
 have up2:∀ c o,(qzq b1 b2 s.heap l1 l2).get? c=some o→(qu1 b1 b2 s.heap l1 l2).get? c=some o:=fun c o e=>Heap.get?_push_of_some _ (Heap.get?_push_of_some _ (Heap.get?_push_of_some _ e))
 have g2:q8 b2 (qu1 b1 b2 s.heap l1 l2) (qzp b1 s.heap l1).objs.size l2 0:=q8.new.at' fun o e=>up2 _ o e
 have g1:q8 b1 (qu1 b1 b2 s.heap l1 l2) s.heap.objs.size l1 0:=q8.new.at' fun o e=>up2 _ o (Heap.get?_push_of_some _ e)
 show _∧_
 rw[z2,z3,z4]at g5
 rw[z1,z2]at g3
 rw[z3]at g4
 rw[z1]at g2
 rw[z4]
 exact⟨⟨_,g5,rfl⟩,h _ g5 g3 g4 g1 g2 fun c o x=>up2 c o (Heap.get?_push_of_some _ (Heap.get?_push_of_some _ x))⟩
theorem qix {b1 b2:Bool} {z TI TO i1 i2 l1 l2:Addr} {k1 k2:Nat} {xs ys:Array Value} {x y a b:Value} {Q:Option Value→Shared→Prop} (D:ZipApart z TI TO i1 i2 l1 l2)
   (hz:IsZip s.heap z TI TO .none) (hTI:IsPair s.heap TI (.ref i1) (.ref i2)) (hTO:IsPair s.heap TO a b) (h1:q8 b1 s.heap i1 l1 k1) (h2:q8 b2 s.heap i2 l2 k2) (hl1:qcv b1 s.heap l1 xs) (hl2:qcv b2 s.heap l2 ys) (hx:xs[k1]? =some x) (hy:ys[k2]? =some y)
   (hQ:∀ h',IsZip h' z TI TO (rawInt s.heap.objs.size)→IsPair h' TO x y→q8 b1 h' i1 l1 (k1+1)→q8 b2 h' i2 l2 (k2+1)→IsPair h' s.heap.objs.size x y→h'.objs.size=s.heap.objs.size+1 →
     (∀ c o,c ≠ z→c ≠ TO→c ≠ i1→c ≠ i2→s.heap.get? c=some o→h'.get? c=some o)→Q (some (.ref s.heap.objs.size)) { s with heap:=h' }) :
   wpAny (model prog w) A (pyNext (.ref z)) Q E s:=by
 have hT:s.TypeIs (.ref z) "zip":=⟨_,hz,rfl⟩
 unfold pyNext
 exact wpAny_bind (wpAny_attempt (wpAny_callSpecial?_slot (name:=Str.ofString "__next__") hT F.slot_zip_next (wpAny_call_entry F.slot_zip_next hT F.entry_zip_next
     (qlo D hz hTI hTO h1 h2 hl1 hl2 hx hy fun h' a1 a2 a3 a4 a5 a6 a7=>wpAny_pure (hQ h' a1 a2 a3 a4 a5 a6 a7)) (F.args_zip_next_1 _))))
theorem qkw {b1 b2:Bool} {z TI TO i1 i2 l1 l2:Addr} {k1 k2:Nat} {xs ys:Array Value} {a b:Value} {Q:Option Value→Shared→Prop} (hh:A.handled=none) (D:ZipApart z TI TO i1 i2 l1 l2)
   (hz:IsZip s.heap z TI TO .none) (hTI:IsPair s.heap TI (.ref i1) (.ref i2)) (hTO:IsPair s.heap TO a b) (h1:q8 b1 s.heap i1 l1 k1) (h2:q8 b2 s.heap i2 l2 k2) (hl1:qcv b1 s.heap l1 xs) (hl2:qcv b2 s.heap l2 ys) (hend:xs[k1]? =none∨ys[k2]? =none)
   (hQ:∀ h',(∀ c o,c ≠ z→c ≠ TO→c ≠ i1→c ≠ i2→s.heap.get? c=some o→h'.get? c=some o)→Q none { s with heap:=h' }):wpAny (model prog w) A (pyNext (.ref z)) Q E s:=by
 have hT:s.TypeIs (.ref z) "zip":=⟨_,hz,rfl⟩
 unfold pyNext
 refine wpAny_bind (wpAny_attempt (wpAny_callSpecial?_slot (name:=Str.ofString "__next__") hT F.slot_zip_next (wpAny_call_entry F.slot_zip_next hT F.entry_zip_next (qns hh D hz hTI hTO h1 h2 hl1 hl2 hend fun h' e hk he=> ?_) (F.args_zip_next_1 _))))
 obtain ⟨o,ho,hc⟩:=he
 refine wpAny_bind (wpAny_isInstance (T:="StopIteration") (b:=true) ⟨o,ho,hc⟩ isSubtype_stop ?_)
 exact wpAny_pure (hQ _ hk)
end
noncomputable def SqS (K:PySem.W.Frag) (b:Bool) (H:Hp) (a:Addr) (xs:List V):Prop:=if b=true then SqL K H a xs else SqT K H a xs
section
variable {X:Cx} {pins:List (Addr × Obj)} {σ:St} {H:Hp} {s:Shared} {a:Addr} {xs ys:List V}
theorem Inv.seqS {b:Bool} (I:Inv X pins σ H s) (h:SqS X.K b H a xs):∃ its:List Value,Vals xs its∧qcv b s.heap a its.toArray∧xs.length≤sizeLine:=by
 cases b with
 | true =>
   obtain ⟨its,r,p,z⟩:=I.list (show SqL X.K H a xs from h)
   exact⟨its,r,p.isList,z⟩
 | false=>exact I.tuple (show SqT X.K H a xs from h)
theorem Inv.seqS_inj {b:Bool} (I:Inv X pins σ H s) (h:SqS X.K b H a xs) (h':SqS X.K b H a ys):xs=ys:=by
 cases b with
 | true=>exact I.list_inj (show SqL X.K H a xs from h) (show SqL X.K H a ys from h')
 | false=>exact I.tuple_inj (show SqT X.K H a xs from h) (show SqT X.K H a ys from h')
end
noncomputable def Itz (K:PySem.W.Frag) (b1 b2:Bool) (l1 l2:Addr):It :=
 ⟨fun i H=>(∃ xs x,SqS K b1 H l1 xs∧xs[i]? =some x)∧∃ ys y,SqS K b2 H l2 ys∧ys[i]? =some y,
  fun i H v H'=>∃ (p:Addr) (x y:V),H p=none∧v=.ref p∧H'=upd H p (.tup [x,y])∧(∀ xs,SqS K b1 H l1 xs→xs[i]? =some x)∧∀ ys,SqS K b2 H l2 ys→ys[i]? =some y,
  fun i H=>∃ xs ys,SqS K b1 H l1 xs∧SqS K b2 H l2 ys∧(xs.length≤i∨ys.length≤i)⟩
theorem qzr {P:Program} {w:World} {K:PySem.W.Frag} {elts:List Expr} {k:Nat} {pos:Pos} {b1 b2:Bool} {z TI TO i1 i2 l1 l2:Addr} (D:ZipApart z TI TO i1 i2 l1 l2) :
   Turn P w K (.Tuple elts k pos) (Itz K b1 b2 l1 l2) [z,TI,TO,i1,i2] z (fun i h=>IsZip h z TI TO .none∧IsPair h TI (.ref i1) (.ref i2)∧(∃ a b,IsPair h TO a b)∧q8 b1 h i1 l1 i∧q8 b2 h i2 l2 i) where
 mem:=by simp
 obj:=fun i h st c hc=>by
   obtain ⟨hz,hTI,⟨a,b,hTO⟩,h1,h2⟩:=st
   simp only [List.mem_cons,List.not_mem_nil,or_false]at hc
   rcases hc with rfl | rfl | rfl | rfl | rfl
   · exact⟨_,hz,fun v q=>by cases q⟩
   · exact⟨_,hTI,fun v q=>by cases q⟩
   · exact⟨_,hTO,fun v q=>by cases q⟩
   · exact h1.here
   · exact h2.here
 keep:=fun i h h' st kk=>by
   obtain ⟨hz,hTI,⟨a,b,hTO⟩,h1,h2⟩:=st
   exact⟨kk z (by simp) _ hz,kk TI (by simp) _ hTI,⟨a,b,kk TO (by simp) _ hTO⟩,h1.at' fun o q=>kk i1 (by simp) o q,h2.at' fun o q=>kk i2 (by simp) o q⟩
 item:=by
   intro X hP hw hK hc i pins s σ H E I hf st hg
   subst hP hw hK
   obtain ⟨hz,hTI,⟨a,b,hTO⟩,h1,h2⟩:=st
   obtain ⟨⟨xs,x,hq,hx⟩,ys,y,hq',hy⟩:=hg
   obtain ⟨its,rv,p,_⟩:=I.seqS hq
   obtain ⟨its',rv',p',_⟩:=I.seqS hq'
   obtain ⟨u,hu,ru⟩:=rv.get hx
   obtain ⟨u',hu',ru'⟩:=rv'.get hy
   refine qix D hz hTI hTO h1 h2 p p' (x:=u) (y:=u') (by simpa using hu) (by simpa using hu') fun h' e1 e2 e3 e4 e5 e6 hk=> ?_
   refine⟨_,rfl,wpAny_letOwnedTupleGo_zip e1 fun h2' ez hs2=> ?_⟩
   have nz:s.heap.objs.size ≠ z:=Nat.ne_of_gt (Heap.lt_size hz)
   have lt:∀ c ∈ [z,TI,TO,i1,i2],c < s.heap.objs.size:=fun c hc=>by
     simp only [List.mem_cons,List.not_mem_nil,or_false]at hc
     rcases hc with rfl | rfl | rfl | rfl | rfl
     · exact Heap.lt_size hz
     · exact Heap.lt_size hTI
     · exact Heap.lt_size hTO
     · obtain ⟨o,q,_⟩:=h1.here;exact Heap.lt_size q
     · obtain ⟨o,q,_⟩:=h2.here;exact Heap.lt_size q
   have eTI:IsPair h2' TI (.ref i1) (.ref i2):=(hs2.2 _ D.TIz).trans (hk TI _ D.TIz D.TITO D.TIi1 D.TIi2 hTI)
   have eTO:IsPair h2' TO u u':=(hs2.2 _ D.TOz).trans e2
   have e3':q8 b1 h2' i1 l1 (i+1):=e3.at' fun o q=>(hs2.2 _ D.i1z).trans q
   have e4':q8 b2 h2' i2 l2 (i+1):=e4.at' fun o q=>(hs2.2 _ D.i2z).trans q
   have J:=I.turnedT (h':=h2') (t':=s.toks) (vs:=[x,y]) (its:=[u,u']) (ch:=[z,TI,TO,i1,i2]) hf
     (fun c o hc q=>(hs2.2 c (fun z=>hc (by simp [z]))).trans (hk c o (fun z=>hc (by simp [z])) (fun z=>hc (by simp [z])) (fun z=>hc (by simp [z])) (fun z=>hc (by simp [z])) q))
     (fun c hc=>by
       simp only [List.mem_cons,List.not_mem_nil,or_false]at hc
       rcases hc with rfl | rfl | rfl | rfl | rfl
       · exact⟨_,ez⟩
       · exact⟨_,eTI⟩
       · exact⟨_,eTO⟩
       · obtain ⟨o,q,_⟩:=e3'.here;exact⟨o,q⟩
       · obtain ⟨o,q,_⟩:=e4'.here;exact⟨o,q⟩) (.cons ru (.cons ru' .nil)) (by show 2≤sizeLine;decide) ⟨_,(hs2.2 _ nz).trans e5,rfl,_,rfl⟩
   have hn:H s.heap.objs.size=none:=I.hok.fresh (Nat.le_refl _)
   refine⟨.ref s.heap.objs.size,_,J,rfl,⟨_,x,y,hn,rfl,rfl,fun zs hz=>by rw[I.seqS_inj hz hq];exact hx,fun zs hz=>by rw[I.seqS_inj hz hq'];exact hy⟩,⟨ez,eTI,⟨_,_,eTO⟩,e3',e4'⟩,fun c hc=> ?_⟩
   rw[qc (Nat.ne_of_lt (lt c hc))]
   exact(hf c hc).1
 done:=by
   intro X hP hw hK hc i pins s σ H E I hf st hg
   subst hP hw hK
   obtain ⟨hz,hTI,⟨a,b,hTO⟩,h1,h2⟩:=st
   obtain ⟨xs,ys,hq,hq',hx⟩:=hg
   obtain ⟨its,rv,p,_⟩:=I.seqS hq
   obtain ⟨its',rv',p',_⟩:=I.seqS hq'
   have hl:=rv.length
   have hl':=rv'.length
   exact qkw (I.ok.hd hc) D hz hTI hTO h1 h2 p p' (by simp;omega) fun h' hk=>⟨rfl,I.turnedN (t':=s.toks) hf fun c o hc q=>hk c o (fun z=>hc (by simp [z])) (fun z=>hc (by simp [z])) (fun z=>hc (by simp [z])) (fun z=>hc (by simp [z])) q⟩
 self:=fun _ _ s Q _ st h=>wpAny_pyIter_zip st.1 h
section
variable {X:Cx}
noncomputable def iZip (K:PySem.W.Frag) (ta:TA):TI:=fun σ H R=>ta σ H fun vs H1=>∃ (b1 b2:Bool) (l1 l2:Addr),vs=[.ref l1,.ref l2]∧(∃ xs,SqS K b1 H1 l1 xs)∧(∃ ys,SqS K b2 H1 l2 ys)∧R (Itz K b1 b2 l1 l2) H1
theorem q63 {elts:List Expr} {k:Nat} {pos':Pos} {a b:Expr} {ta:TA} {p pos:Pos} (hg:Gl X "zip") (hm:X.mg "zip"=none) (ha:PA X [a,b] ta) (hs:starEach [a,b] X.env=[(false,eval a X.env),(false,eval b X.env)]:=by rfl) (hs2:starEach [b] X.env=[(false,eval b X.env)]:=by rfl) :
   PI X (.Tuple elts k pos') (.Call (.Name "zip" p) [a,b] [] pos) (iZip X.K ta):=by
 intro pins s σ H R I h
 refine Call_ (qgh I hg hm q6v (PyProof.Rows.callWith_type1 (thn (ha pos pins s σ H _ I h) fun us s1 ⟨vs,H1,I1,r1,q1⟩=> ?_) (by rw[hs,hs2]) (by rw[hs2];rfl)))
 obtain ⟨b1,b2,l1,l2,e,⟨xs,hq⟩,⟨ys,hq'⟩,q⟩:=q1
 subst e
 obtain ⟨u,u',rfl,ru,ru'⟩:=r1.two
 cases ru
 cases ru'
 obtain ⟨its,rv,pl,_⟩:=I1.seqS hq
 obtain ⟨its',rv',pl',_⟩:=I1.seqS hq'
 have in1:l1 < s1.heap.objs.size:=by
   cases b1 with
   | true=>obtain ⟨o,e,_⟩:=(show s1.heap.IsList l1 its.toArray from pl);exact Heap.lt_size e
   | false=>obtain ⟨o,e,_⟩:=(show s1.heap.IsTuple l1 its.toArray from pl);exact Heap.lt_size e
 have in2:l2 < s1.heap.objs.size:=by
   cases b2 with
   | true=>obtain ⟨o,e,_⟩:=(show s1.heap.IsList l2 its'.toArray from pl');exact Heap.lt_size e
   | false=>obtain ⟨o,e,_⟩:=(show s1.heap.IsTuple l2 its'.toArray from pl');exact Heap.lt_size e
 refine qxv pl pl' fun h' e1 e2 e3 e4 e5 hk=> ?_
 refine wpAny_pyIter_zip e1 ?_
 have fr:∀ c,s1.heap.objs.size≤c→H1 c=none:=fun c hc=>I1.hok.fresh hc
 refine⟨_,_,_,_,H1,rfl,I1.kept (t':=s1.toks) hk,qzr (b1:=b1) (b2:=b2) (zipApart_new in1 in2),⟨e1,e2,⟨_,_,e3⟩,e4,e5⟩,fun c hc=> ?_,q⟩
 have hc':s1.heap.objs.size≤c:=by
   simp only [List.mem_cons,List.not_mem_nil,or_false]at hc
   rcases hc with rfl | rfl | rfl | rfl | rfl
   · exact Nat.le_add_right _ _
   · exact Nat.le_add_right _ _
   · exact Nat.le_add_right _ _
   · exact Nat.le_refl _
   · exact Nat.le_add_right _ _
 exact I1.fpOk hc' (fr c hc')
end
section
variable {X:Cx}
theorem qr9 {bs:List Bool} {its:List Value} (rv:Vals (bs.map V.bl) its):∀ (i:Nat) (v:Value),its[i]? =some v→v=Value.bool (bs.getD i true):=fun i v e=>by
 have hl:=rv.length
 have hi:i < its.length:=(List.getElem?_eq_some_iff.mp e).1
 have hb:i < bs.length:=by simpa [← hl]using hi
 obtain ⟨u,e2,r⟩:=rv.get (i:=i) (x:=.bl bs[i]) (by simp [hb])
 rw[e]at e2;cases e2
 have:v=Value.bool bs[i]:=r
 rw[this];simp [List.getD_eq_getElem?_getD,hb]
theorem q21 {ns:List Int} {its:List Value} (rv:Vals (ns.map V.int) its):∀ (i:Nat) (v:Value),its[i]? =some v→∃ t,v=Value.int (ns.getD i 0) t:=fun i v e=>by
 have hl:=rv.length
 have hi:i < its.length:=(List.getElem?_eq_some_iff.mp e).1
 have hb:i < ns.length:=by simpa [← hl]using hi
 obtain ⟨u,e2,r⟩:=rv.get (i:=i) (x:=.int ns[i]) (by simp [hb])
 rw[e]at e2;cases e2
 obtain ⟨t,rfl⟩:=r
 exact⟨t,by simp [List.getD_eq_getElem?_getD,hb]⟩
theorem range_all (bs:List Bool):(List.range bs.length).all (fun i=>bs.getD i true)=bs.all id:=by
 rw[Bool.eq_iff_iff]
 simp only [List.all_eq_true,List.mem_range]
 constructor
 · intro h b hb
   obtain ⟨i,hi,rfl⟩:=List.getElem_of_mem hb
   have:=h i hi
   simpa [List.getD_eq_getElem?_getD,hi]using this
 · intro h i hi
   have:=h bs[i] (List.getElem_mem hi)
   simpa [List.getD_eq_getElem?_getD,hi]using this
theorem range_any (bs:List Bool):(List.range bs.length).any (fun i=>bs.getD i true)=bs.any id:=by
 rw[Bool.eq_iff_iff]
 simp only [List.any_eq_true,List.mem_range]
 constructor
 · rintro ⟨i,hi,h⟩
   exact⟨bs[i],List.getElem_mem hi,by simpa [List.getD_eq_getElem?_getD,hi]using h⟩
 · rintro ⟨b,hb,h⟩
   obtain ⟨i,hi,rfl⟩:=List.getElem_of_mem hb
   exact⟨i,hi,by simpa [List.getD_eq_getElem?_getD,hi]using h⟩
theorem qkk (ns:List Int):∀ k,k≤ns.length→preSum (fun i=>ns.getD i 0) k=(ns.take k).sum
 | 0,_=>by simp [preSum]
 | k+1,h=>by
   have hk:k < ns.length:=h
   have e:ns.take (k+1)=ns.take k++[ns[k]]:=by simp
   rw[preSum,qkk ns k (Nat.le_of_lt hk),e,List.sum_append,List.getD_eq_getElem?_getD]
   simp [hk]
theorem qu2 (ns:List Int):preSum (fun i=>ns.getD i 0) ns.length=ns.sum:=by
 rw[qkk ns _ (Nat.le_refl _),List.take_length]
noncomputable def rAll (K:PySem.W.Frag):List V→Hp→VK→Prop:=fun vs H Q=>∃ (l:Addr) (bs:List Bool),vs=[.ref l]∧SqL K H l (bs.map V.bl)∧Q (.bl (bs.all id)) H
noncomputable def rAny (K:PySem.W.Frag):List V→Hp→VK→Prop:=fun vs H Q=>∃ (l:Addr) (bs:List Bool),vs=[.ref l]∧SqL K H l (bs.map V.bl)∧Q (.bl (bs.any id)) H
noncomputable def rSum (K:PySem.W.Frag):List V→Hp→VK→Prop:=fun vs H Q=>∃ (l:Addr) (ns:List Int),vs=[.ref l]∧SqL K H l (ns.map V.int)∧Q (.int ns.sum) H
theorem qzs (hc:X.calm=true):qal X (.builtin "all") (rAll X.K):=by
 intro pins s σ H xs us Q I r h
 obtain ⟨l,bs,rfl,hq,q⟩:=h
 obtain ⟨u,rfl,ru⟩:=r.one
 cases ru
 obtain ⟨its,rv,p,hz⟩:=I.list hq
 have hl:=rv.length
 have hlt:l < s.heap.objs.size:=by obtain ⟨o,e,_⟩:=p.isList;exact Heap.lt_size e
 refine call_all_walk (wpAny_pyIter_list p.isList ⟨_,_,_,_,_,_,fun i=>bs.getD i true,rfl,Walks.list (A:=X.A.in1) (I.ok.hd hc) _ l (Nat.ne_of_lt hlt) its.toArray,⟨⟨_,Heap.get?_push_size _ rfl,rfl,rfl⟩,p.isList.push _⟩,?_,fun h' tk hk=> ?_⟩)
 · intro i v s' Q' E' hv hq'
   rw[qr9 rv i v (by simpa using hv)]
   exact wpAny_truthy_bool hq'
 · have e:(List.range its.toArray.size).all (fun i=>bs.getD i true)=bs.all id:=by
     rw[List.size_toArray,← hl,List.length_map];exact range_all bs
   rw[e]
   exact⟨.bl _,H,I.kept fun b o eb=>hk b o (fun z=>Nat.ne_of_lt (Heap.lt_size eb) (by simpa using z)) (Heap.get?_push_of_some _ eb),rfl,q⟩
theorem qzt (hc:X.calm=true):qal X (.builtin "any") (rAny X.K):=by
 intro pins s σ H xs us Q I r h
 obtain ⟨l,bs,rfl,hq,q⟩:=h
 obtain ⟨u,rfl,ru⟩:=r.one
 cases ru
 obtain ⟨its,rv,p,hz⟩:=I.list hq
 have hl:=rv.length
 have hlt:l < s.heap.objs.size:=by obtain ⟨o,e,_⟩:=p.isList;exact Heap.lt_size e
 refine call_any_walk (wpAny_pyIter_list p.isList ⟨_,_,_,_,_,_,fun i=>bs.getD i true,rfl,Walks.list (A:=X.A.in1) (I.ok.hd hc) _ l (Nat.ne_of_lt hlt) its.toArray,⟨⟨_,Heap.get?_push_size _ rfl,rfl,rfl⟩,p.isList.push _⟩,?_,fun h' tk hk=> ?_⟩)
 · intro i v s' Q' E' hv hq'
   rw[qr9 rv i v (by simpa using hv)]
   exact wpAny_truthy_bool hq'
 · have e:(List.range its.toArray.size).any (fun i=>bs.getD i true)=bs.any id:=by
     rw[List.size_toArray,← hl,List.length_map];exact range_any bs
   rw[e]
   exact⟨.bl _,H,I.kept fun b o eb=>hk b o (fun z=>Nat.ne_of_lt (Heap.lt_size eb) (by simpa using z)) (Heap.get?_push_of_some _ eb),rfl,q⟩
theorem qzu (hc:X.calm=true):qal X (.builtin "sum") (rSum X.K):=by
 intro pins s σ H xs us Q I r h
 obtain ⟨l,ns,rfl,hq,q⟩:=h
 obtain ⟨u,rfl,ru⟩:=r.one
 cases ru
 obtain ⟨its,rv,p,hz⟩:=I.list hq
 have hl:=rv.length
 have hlt:l < s.heap.objs.size:=by obtain ⟨o,e,_⟩:=p.isList;exact Heap.lt_size e
 refine call_sum_walkG (wpAny_pyIter_list p.isList ⟨_,_,_,_,_,_,fun i=>ns.getD i 0,rfl,Walks.list (A:=X.A.in1) (I.ok.hd hc) _ l (Nat.ne_of_lt hlt) its.toArray,⟨⟨_,Heap.get?_push_size _ rfl,rfl,rfl⟩,p.isList.push _⟩,?_,?_,fun h' tk t' hk=> ?_⟩)
 · intro b hb
   rw[Heap.size_push]
   simp only [List.mem_cons,List.not_mem_nil,or_false]at hb
   rcases hb with rfl | rfl
   · exact Nat.lt_succ_self _
   · exact Nat.lt_succ_of_lt hlt
 · intro i v hv
   exact q21 rv i v (by simpa using hv)
 · have e:preSum (fun i=>ns.getD i 0) its.toArray.size=ns.sum:=by
     rw[List.size_toArray,← hl,List.length_map];exact qu2 ns
   rw[e]
   exact⟨.int _,H,I.kept fun b o eb=>hk b o (fun z=>Nat.ne_of_lt (Heap.lt_size eb) (by simpa using z)) (Heap.get?_push_of_some _ eb),⟨_,rfl⟩,q⟩
end
section
variable {X:Cx} {K:PySem.W.Frag}
theorem kSlL (hK:X.K=K):SlR X (rSlL K):=by subst hK;exact qv9
theorem q22 (hK:X.K=K):qal X (.type "list") (fun xs H Q=>∃ p ys,xs=[.ref p]∧(SqL K H p ys∨SqT K H p ys)∧∀ l,H l=none→Q (.ref l) (upd H l (.lst ys))):=by subst hK;exact qhi
end
section
variable {κ:Type} [DecidableEq κ]
noncomputable def qiy (kvs:List (κ × V)) (k:κ):Option V:=(kvs.find? fun kv=>decide (kv.1=k)).map (·.2)
noncomputable def putK (kvs:List (κ × V)) (k:κ) (v:V):List (κ × V) :=
 if (kvs.any fun kv=>decide (kv.1=k))=true then kvs.map (fun kv=>if kv.1=k then (kv.1,v)else kv)else kvs++[(k,v)]
theorem qfc {p:κ × V} {r:List (κ × V)} {k:κ} (e:p.1=k):qiy (p::r) k=some p.2:=by simp [qiy,List.find?_cons,e]
theorem qfd {p:κ × V} {r:List (κ × V)} {k:κ} (e:¬ p.1=k):qiy (p::r) k=qiy r k:=by simp [qiy,List.find?_cons,e]
theorem qsa (k:κ):∀ kvs:List (κ × V),(kvs.any fun kv=>decide (kv.1=k))=(qiy kvs k).isSome
 | []=>rfl
 | p::r=>by
   rw[List.any_cons]
   by_cases e:p.1=k
   · simp only [qfc e,decide_eq_true e,Bool.true_or,Option.isSome_some]
   · rw[qfd e,decide_eq_false e,Bool.false_or];exact qsa k r
theorem qkl (kvs:List (κ × V)) (k:κ) (v:V):(putK kvs k v).length≤kvs.length+1:=by
 unfold putK
 split
 · rw[List.length_map];omega
 · rw[List.length_append,List.length_cons,List.length_nil];omega
theorem qli.isSome_eq {o:Option V} {u:Option Value} (r:qli o u):o.isSome=u.isSome:=by
 cases o with
 | none=>cases u with
   | none=>rfl
   | some _=>exact(show False from r).elim
 | some _=>cases u with
   | none=>exact(show False from r).elim
   | some _=>rfl
theorem KV.val {kvs:List (κ × V)} {vs:List (κ × Value)} (r:KV kvs vs) (k:κ):qli (qiy kvs k) (valueAt vs k):=by
 unfold KV at r
 induction r with
 | nil=>exact True.intro
 | @cons p q ps qs h t ih =>
   obtain ⟨h1,h2⟩:=h
   by_cases e:p.1=k
   · have e':q.1=k:=h1.symm.trans e
     have b:valueAt (q::qs) k=some q.2:=by simp [valueAt,List.find?_cons,e']
     rw[qfc e,b];exact h2
   · have e':¬ q.1=k:=fun z=>e (h1.trans z)
     have b:valueAt (q::qs) k=valueAt qs k:=by simp [valueAt,List.find?_cons,e']
     rw[qfd e,b];exact ih
theorem KV.any {kvs:List (κ × V)} {vs:List (κ × Value)} (r:KV kvs vs) (k:κ):(kvs.any fun kv=>decide (kv.1=k))=vs.any fun kv=>decide (kv.1=k):=by
 unfold KV at r
 induction r with
 | nil=>rfl
 | cons h t ih=>rw[List.any_cons,List.any_cons,ih,h.1]
theorem KV.repl {kvs:List (κ × V)} {vs:List (κ × Value)} (r:KV kvs vs) (k:κ) {y:V} {u:Value} (ry:RelV y u) :
   KV (kvs.map fun kv=>if kv.1=k then (kv.1,y)else kv) (vs.map fun kv=>if kv.1=k then (kv.1,u)else kv):=by
 unfold KV at r ⊢
 induction r with
 | nil=>exact .nil
 | @cons p q ps qs h t ih =>
   rw[List.map_cons,List.map_cons]
   refine .cons ?_ ih
   obtain ⟨h1,h2⟩:=h
   by_cases e:p.1=k
   · rw[if_pos e,if_pos (h1.symm.trans e)];exact⟨h1,ry⟩
   · rw[if_neg e,if_neg (fun z=>e (h1.trans z))];exact⟨h1,h2⟩
theorem KV.put {kvs:List (κ × V)} {vs:List (κ × Value)} (r:KV kvs vs) (k:κ) {y:V} {u:Value} (ry:RelV y u):KV (putK kvs k y) (stored vs k u):=by
 unfold putK stored
 rw[r.any k]
 by_cases e:(vs.any fun kv=>decide (kv.1=k))=true
 · rw[if_pos e,if_pos e];exact r.repl k ry
 · rw[if_neg e,if_neg e];exact Paired.snoc r ⟨rfl,ry⟩
theorem KV.length {kvs:List (κ × V)} {vs:List (κ × Value)} (r:KV kvs vs):kvs.length=vs.length:=Paired.length r
end
theorem qo0 {P:Program} {w:World} {k:Key} {u:Value} (r:RelV (kV k) u):(qm P w).is k u=true:=by
 cases k with
 | inl i=>obtain ⟨t,e⟩:=(show ∃ t,u=Value.int i t from r);subst e;exact qrv P w i t
 | inr x=>obtain ⟨t,e⟩:=(show ∃ t,u=Value.str x t from r);subst e;exact qrw P w x t
theorem qo1 {P:Program} {w:World}:∀ {ks:List Key} {us:List Value},Vals (ks.map kV) us→ItemsAre (qm P w) ks us
 | [],_,r=>by rw[List.map_nil]at r;cases r;exact .nil
 | k::ks,_,r=>by
   rw[List.map_cons]at r
   cases r with
   | cons h t=>exact .cons (qo0 h) (qo1 t)
noncomputable abbrev KT (H:Hp):List (List Key × V)→List (List Key × Addr × Value)→Prop:=Paired fun p q=>p.1=q.1∧H q.2.1=some (.tup (p.1.map kV))∧RelV p.2 q.2.2
theorem KT.val {H:Hp} {kvs:List (List Key × V)} {xs:List (List Key × Addr × Value)} (r:KT H kvs xs) (k:List Key):qli (qiy kvs k) ((atKey xs k).map (·.2)):=by
 induction r with
 | nil=>exact True.intro
 | @cons p q ps qs h t ih =>
   obtain ⟨h1,_,h2⟩:=h
   by_cases e:p.1=k
   · have e':q.1=k:=h1.symm.trans e
     have b:atKey (q::qs) k=some q.2:=by simp [atKey,List.find?_cons,e']
     rw[qfc e,b];exact h2
   · have e':¬ q.1=k:=fun z=>e (h1.trans z)
     have b:atKey (q::qs) k=atKey qs k:=by simp [atKey,List.find?_cons,e']
     rw[qfd e,b];exact ih
theorem KT.repl {H:Hp} {kvs:List (List Key × V)} {xs:List (List Key × Addr × Value)} (r:KT H kvs xs) (k:List Key) {y:V} {u:Value} (ry:RelV y u) :
   KT H (kvs.map fun kv=>if kv.1=k then (kv.1,y)else kv) (xs.map (putAt k u)):=by
 induction r with
 | nil=>exact .nil
 | @cons p q ps qs h t ih =>
   rw[List.map_cons,List.map_cons]
   refine .cons ?_ ih
   obtain ⟨h1,h2,h3⟩:=h
   unfold putAt
   by_cases e:p.1=k
   · rw[if_pos e,if_pos (h1.symm.trans e)];exact⟨h1,h2,ry⟩
   · rw[if_neg e,if_neg (fun z=>e (h1.trans z))];exact⟨h1,h2,h3⟩
theorem KT.put {H:Hp} {kvs:List (List Key × V)} {xs:List (List Key × Addr × Value)} (r:KT H kvs xs) (k:List Key) {b:Addr} {y:V} {u:Value} (hb:H b=some (.tup (k.map kV))) (ry:RelV y u) :
   KT H (putK kvs k y) (storedH xs k b u):=by
 have e:(kvs.any fun kv=>decide (kv.1=k))=(atKey xs k).isSome:=by
   rw[qsa,(r.val k).isSome_eq,Option.isSome_map]
 unfold putK storedH
 rw[e]
 by_cases q:(atKey xs k).isSome=true
 · rw[if_pos q,if_pos q];exact r.repl k ry
 · rw[if_neg q,if_neg q];exact Paired.snoc r ⟨rfl,hb,ry⟩
theorem KT.keeps {H H':Hp} {kvs:List (List Key × V)} {xs:List (List Key × Addr × Value)} (r:KT H kvs xs) (ht:∀ b ys,H b=some (.tup ys)→H' b=some (.tup ys)):KT H' kvs xs :=
 Paired.mapP r fun _ _ z=>⟨z.1,ht _ _ z.2.1,z.2.2⟩
section
variable {P:Program} {w:World} {H:Hp} {h:Heap} {a:Addr}
theorem q41 {u:HO} (ok:HOk P w H h) (e:Rd H a u):qau P w H h a u:=e.ok ok
theorem qhl {kvs:List (Key × V)} (ok:HOk P w H h) (e:Rd H a (.dK kvs)):kvs.length≤sizeLine∧(a==sysModules)=false∧∃ vs,KV kvs vs∧h.DictOf (qm P w) a vs :=
 show qau P w H h a (.dK kvs) from q41 ok e
theorem qaaq {kvs:List (Key × V)} (ok:HOk P w H h) (e:H a=some (.dK kvs)):kvs.length≤sizeLine∧(a==sysModules)=false∧∃ vs,KV kvs vs∧h.DictOf (qm P w) a vs:=qhl ok (.inl e)
theorem qlq {ks:List Key} (ok:HOk P w H h) (e:H a=some (.tup (ks.map kV))):(tupleKind (qm P w)).is h ks a:=by
 obtain ⟨_,its,r,o,h1,h2,n,h3⟩:=(show qau P w H h a (.tup (ks.map kV)) from ok a _ e)
 exact⟨o,its.toArray,n,h1,h2,h3,by simpa using qo1 r⟩
theorem qsb {kvs:List (List Key × V)} (ok:HOk P w H h) (e:Rd H a (.dT kvs)):kvs.length≤sizeLine∧(a==sysModules)=false ∧
   ∃ xs,KT H kvs xs∧h.DictOfH (tupleKind (qm P w)) a xs:=by
 obtain ⟨z,y,xs,r,o,es,ep,h1,h2,h3,h4,h5⟩:=(show qau P w H h a (.dT kvs) from q41 ok e)
 refine⟨z,y,xs,r,o,es,ep,h1,h2,h3,h4,fun x hx=> ?_,h5⟩
 have all:∀ {l:List (List Key × V)} {m:List (List Key × Addr × Value)},KT H l m→∀ x ∈ m,(tupleKind (qm P w)).is h x.1 x.2.1:=by
   intro l m q
   induction q with
   | nil=>intro x hx;exact nomatch hx
   | @cons p q ps qs hq t ih =>
     intro x hx
     rcases List.mem_cons.mp hx with e | hx
     · subst e
       exact qlq ok (by rw[← hq.1];exact hq.2.1)
     · exact ih x hx
 exact all r x hx
theorem qaar {kvs:List (List Key × V)} (ok:HOk P w H h) (e:H a=some (.dT kvs)):kvs.length≤sizeLine∧(a==sysModules)=false ∧
   ∃ xs,KT H kvs xs∧h.DictOfH (tupleKind (qm P w)) a xs:=qsb ok (.inl e)
end
noncomputable def qlr (H:Hp) (a:Addr) (y:V) (r:Option V):Prop :=
 (∃ kvs k,Rd H a (.dK kvs)∧y=kV k∧r=qiy kvs k)∨∃ kvs k b,Rd H a (.dT kvs)∧y=.ref b∧H b=some (.tup (k.map kV))∧r=qiy kvs k
noncomputable def qzv (H:Hp) (a:Addr) (y v:V) (H':Hp):Prop :=
 (∃ kvs k,H a=some (.dK kvs)∧y=kV k∧kvs.length < sizeLine∧H'=upd H a (.dK (putK kvs k v))) ∨
 ∃ kvs k b,H a=some (.dT kvs)∧y=.ref b∧H b=some (.tup (k.map kV))∧kvs.length < sizeLine∧H'=upd H a (.dT (putK kvs k v))
theorem qzv.k {H:Hp} {a:Addr} {kvs:List (Key × V)} {k:Key} {v:V} (e:H a=some (.dK kvs)) (hl:kvs.length < sizeLine):qzv H a (kV k) v (upd H a (.dK (putK kvs k v))):=.inl ⟨kvs,k,e,rfl,hl,rfl⟩
section
variable {X:Cx} {pins:List (Addr × Obj)} {σ:St} {H:Hp} {s:Shared} {a:Addr} {y v:V} {u r:Value} {o:Option V} {A:Around} {E:Value→Shared→Prop}
theorem Inv.big (I:Inv X pins σ H s):sysModules < s.heap.objs.size:=by
 have h:mainGlobals < s.heap.objs.size:=(I.mod.glob.keeps I.bk).lt
 exact Nat.lt_trans (by decide) h
theorem qo2 {Q:Value→Shared→Prop} (hu:A.units+1 < cLine) (I:Inv X pins σ H s) (g:qlr H a y (some v)) (ry:RelV y u) (h:∀ w' s',Inv X pins σ H s'→RelV v w'→Q w' s') :
   wpAny (model X.prog X.w) A (getItem (.ref a) u) Q E s:=by
 rcases g with ⟨kvs,k,e,ey,l⟩ | ⟨kvs,k,b,e,ey,eb,l⟩
 · subst ey
   obtain ⟨z,hd,vs,rel,dd⟩:=qhl I.hok e
   obtain ⟨w',hw,rw'⟩:=qli.some_of (v:=v) (o:=valueAt vs k) (by rw[l];exact rel.val k)
   exact wpAny_getItem_of (qo0 ry) dd.mapOf hw (h w' _ (I.tok _) rw')
 · subst ey
   cases (show u=Value.ref b from ry)
   obtain ⟨z,hd,xs,rel,dd⟩:=qsb I.hok e
   obtain ⟨w',hw,rw'⟩:=qli.some_of (v:=v) (o:=(atKey xs k).map (·.2)) (by rw[l];exact rel.val k)
   obtain ⟨p,hp,hp2⟩:=Option.map_eq_some_iff.mp hw
   refine wpAny_getItem_heap (tupleKind_room_in1 hu) (qlq I.hok eb) dd hp ?_
   rw[hp2]
   exact h w' _ (I.tok _) rw'
theorem d_in {Q:Value→Shared→Prop} (hu:A.units+1 < cLine) (I:Inv X pins σ H s) (g:qlr H a y o) (ry:RelV y u) (h:∀ s',Inv X pins σ H s'→Q (.bool o.isSome) s') :
   wpAny (model X.prog X.w) A (compareOp .In u (.ref a)) Q E s:=by
 rcases g with ⟨kvs,k,e,ey,l⟩ | ⟨kvs,k,b,e,ey,eb,l⟩
 · subst ey
   obtain ⟨z,hd,vs,rel,dd⟩:=qhl I.hok e
   refine wpAny_in_of (qo0 ry) hd dd.mapOf ?_
   rw[← (rel.val k).isSome_eq,← l]
   exact h _ (I.tok _)
 · subst ey
   cases (show u=Value.ref b from ry)
   obtain ⟨z,hd,xs,rel,dd⟩:=qsb I.hok e
   refine wpAny_in_heap (tupleKind_room_in1 hu) (qlq I.hok eb) hd dd ?_
   have q:=(rel.val k).isSome_eq
   rw[Option.isSome_map]at q
   rw[← q,← l]
   exact h _ (I.tok _)
theorem q23 {Q:Value→Shared→Prop} (hu:A.units+1 < cLine) (I:Inv X pins σ H s) (g:qlr H a y o) (ry:RelV y u) (h:∀ s',Inv X pins σ H s'→Q (.bool (!o.isSome)) s') :
   wpAny (model X.prog X.w) A (compareOp .NotIn u (.ref a)) Q E s:=by
 rcases g with ⟨kvs,k,e,ey,l⟩ | ⟨kvs,k,b,e,ey,eb,l⟩
 · subst ey
   obtain ⟨z,hd,vs,rel,dd⟩:=qhl I.hok e
   refine wpAny_notIn_of (qo0 ry) hd dd.mapOf ?_
   rw[← (rel.val k).isSome_eq,← l]
   exact h _ (I.tok _)
 · subst ey
   cases (show u=Value.ref b from ry)
   obtain ⟨z,hd,xs,rel,dd⟩:=qsb I.hok e
   refine wpAny_notIn_heap (tupleKind_room_in1 hu) (qlq I.hok eb) hd dd ?_
   have q:=(rel.val k).isSome_eq
   rw[Option.isSome_map]at q
   rw[← q,← l]
   exact h _ (I.tok _)
theorem qwa {h':Heap} {t':Nat} {ob:HO} (I:Inv X pins σ H s) (mu:Mut (H a)) (hs:Heap.SameBut a s.heap h') (he:∃ q,h'.get? a=some q) (new:qau X.prog X.w (upd H a ob) h' a ob) :
   Inv X pins σ (upd H a ob) { s with heap:=h',toks:=t' } :=
 I.write (x:=a) (e:=a) mu (.inl rfl) (fun b q hb z=>(hs.2 b hb).trans z) he new
theorem q64 {P:Program} {w:World} {H':Hp} {h':Heap} {kvs:List (Key × V)} {vs:List (Key × Value)} (z:kvs.length≤sizeLine) (hd:(a==sysModules)=false) (rel:KV kvs vs) (dd:h'.DictOf (qm P w) a vs) :
   qau P w H' h' a (.dK kvs):=⟨z,hd,vs,rel,dd⟩
theorem qxw {H':Hp} {Q:Unit→Shared→Prop} (hu:A.units+1 < cLine) (I:Inv X pins σ H s) (g:qzv H a y v H') (ry:RelV y u) (rv:RelV v r) (h:∀ s',Inv X pins σ H' s'→Q () s') :
   wpAny (model X.prog X.w) A (setItem (.ref a) u r) Q E s:=by
 rcases g with ⟨kvs,k,e,ey,l,eH⟩ | ⟨kvs,k,b,e,ey,eb,l,eH⟩
 · subst ey eH
   obtain ⟨z,hd,vs,rel,dd⟩:=qaaq I.hok e
   have hz:vs.length≤sizeLine:=by rw[← rel.length];exact z
   have hl:(putK kvs k v).length≤sizeLine:=by have:=qkl kvs k v;omega
   refine wpAny_setItem_pairs (hsz:=hz) (qo0 ry) dd fun h' dd' hs=>h _ ?_
   have he:∃ q,h'.get? a=some q:=let ⟨q,_,_,hq,_⟩:=dd';⟨q,hq⟩
   exact qwa I (by rw[e];exact True.intro) hs he (q64 hl hd (rel.put k rv) dd')
 · subst ey eH
   cases (show u=Value.ref b from ry)
   obtain ⟨z,hd,xs,rel,dd⟩:=qaar I.hok e
   have hz:xs.length≤sizeLine:=by rw[← Paired.length rel];exact z
   have hl:(putK kvs k v).length≤sizeLine:=by have:=qkl kvs k v;omega
   refine wpAny_setItem_heap (hsz:=hz) (tupleKind_room_in1 hu) (qlq I.hok eb) dd fun h' dd' hs=>h _ ?_
   obtain ⟨q,es,ep,hq,h2,h3,h4,_,h5⟩:=dd'
   refine qwa I (by rw[e];exact True.intro) hs ⟨q,hq⟩ ⟨hl,hd,_,(rel.put k eb rv).keeps fun c ys ec=> ?_,q,es,ep,hq,h2,h3,h4,h5⟩
   rw[qc (q9m ec e (fun z=>nomatch z))]
   exact ec
end
section
variable {X:Cx} {pins:List (Addr × Obj)} {σ:St} {H:Hp} {s:Shared} {a:Addr} {kvs:List (Key × V)} {k:Key} {u:Value} {A:Around} {E:Value→Shared→Prop}
theorem qaas {Q:Value→Shared→Prop} (I:Inv X pins σ H s) (e:Rd H a (.dK kvs)) (h:∀ t s',Inv X pins σ H s'→Q (.int kvs.length t) s'):wpAny (model X.prog X.w) A (call (.builtin "len") [.ref a]) Q E s:=by
 obtain ⟨z,hd,vs,rel,dd⟩:=qhl I.hok e
 refine call_len_dict hd dd (by rw[← rel.length];rw[sizeLine_eq]at z;omega) ?_
 rw[← rel.length]
 exact h _ _ (I.tok _)
theorem q24 {Q:Bool→Shared→Prop} (I:Inv X pins σ H s) (e:Rd H a (.dK kvs)) (h:∀ s',Inv X pins σ H s'→Q (!kvs.isEmpty) s'):wpAny (model X.prog X.w) A (truthy (.ref a)) Q E s:=by
 obtain ⟨z,hd,vs,rel,dd⟩:=qhl I.hok e
 refine wpAny_truthy_dict hd dd (by rw[← rel.length];rw[sizeLine_eq]at z;omega) ?_
 have q:kvs.isEmpty=vs.isEmpty:=by cases rel <;> rfl
 rw[← q]
 exact h _ (I.tok _)
end
theorem qsc {X:Cx} {pins:List (Addr × Obj)} {σ:St} {H:Hp} {s:Shared} {a:Addr} {y:V} {o:Option V} (I:Inv X pins σ H s) (g:qlr H a y o):s.TypeIs (.ref a) "dict":=by
 rcases g with ⟨kvs,k,e,_,_⟩ | ⟨kvs,k,b,e,_,_,_⟩
 · obtain ⟨_,_,vs,_,dd⟩:=qhl I.hok e
   exact dd.typeIs
 · obtain ⟨_,_,xs,_,dd⟩:=qsb I.hok e
   exact dd.typeIs
section
variable {X:Cx} {o i e value:Expr} {pos pos' tpos:Pos} {td ty tv:TE}
end
theorem qzw {P:Program} {w:World} {H:Hp} (h:Heap) (hb:sysModules < h.objs.size):qau P w H (h.push { cls:=.type "dict",data:=.dict #[] }) h.objs.size (.dK []) :=
 ⟨Nat.zero_le _,beq_eq_false_iff_ne.mpr (Ne.symm (Nat.ne_of_lt hb)),[],.nil,Heap.DictOf.new h⟩
noncomputable def q65:TE:=fun _ H Q=>∀ p,H p=none→Q (.ref p) (upd H p (.dK []))
section
variable {X:Cx} {pos:Pos}
theorem qzx:PE X (.Dict [] [] pos) q65:=fun pins s σ H Q I h =>
 wpAny_Dict_empty ⟨.ref s.heap.objs.size,_,I.laid (a:=s.heap.objs.size) (o:=.dK []) (t':=s.toks) (fun _ _ q=>Heap.get?_push_of_some _ q) (Nat.le_refl _) (qzw s.heap I.big),rfl,h _ (I.hok.fresh (Nat.le_refl _))⟩
end
section
variable {X:Cx} {pins:List (Addr × Obj)} {σ:St} {H:Hp} {s:Shared} {a:Addr} {y d:V} {u r:Value} {o:Option V} {A:Around} {E:Value→Shared→Prop}
end
section
variable {X:Cx} {o e f:Expr} {apos cpos:Pos} {td ty tx:TE}
end
section
variable {X:Cx} {pins:List (Addr × Obj)} {σ:St} {H:Hp} {s:Shared} {a:Addr} {kvs:List (Key × V)} {A:Around} {E:Value→Shared→Prop}
end
section
variable {X:Cx} {pins:List (Addr × Obj)} {σ:St} {H:Hp} {s:Shared} {a:Addr} {y:V} {u:Value} {A:Around} {E:Value→Shared→Prop}
end
section
variable {X:Cx}
end
section
variable {κ:Type} [DecidableEq κ]
end
end L2
namespace T3
open PySem PySem.Spec PyProof.Rows L2
noncomputable abbrev St:=L2.St
theorem qo3 {N:List Addr} (hN:N.Nodup) {i j:Nat} {x:Addr} (a:N[i]? =some x) (b:N[j]? =some x):i=j:=by
 obtain ⟨h1,e1⟩:=List.getElem?_eq_some_iff.mp a
 obtain ⟨h2,e2⟩:=List.getElem?_eq_some_iff.mp b
 exact(List.getElem_inj hN).mp (e1.trans e2.symm)
inductive D where
 | non | bl (b:Bool) | int (i:Int) | str (x:Str) | ty (n:String) | at_ (a:Addr) | ref (l:Nat)
 | lst (xs:List D) | tup (xs:List D) | dct (ks:List Key) (xs:List D) | obj (C:Addr) (fs:List Str) (xs:List D)
structure Wd where
 ρ:List Addr
 Z:Addr→Prop
mutual
noncomputable def Rep (w:Wd) (H:Hp):D→V→Prop
 | .non,v=>v=.non
 | .bl b,v=>v=.bl b
 | .int i,v=>v=.int i
 | .str x,v=>v=.str x
 | .ty n,v=>v=.ty n
 | .at_ a,v=>v=.ref a
 | .ref l,v=>∃ a,w.ρ[l]? =some a∧v=.ref a
 | .lst xs,v=>∃ a vs,v=.ref a∧w.Z a∧H a=some (.lst vs)∧qb w H xs vs
 | .tup xs,v=>∃ a vs,v=.ref a∧w.Z a∧H a=some (.tup vs)∧qb w H xs vs
 | .dct ks xs,v=>∃ a vs,v=.ref a∧w.Z a∧Rd H a (.dK (ks.zip vs))∧ks.length=xs.length∧qb w H xs vs
 | .obj C fs xs,v=>∃ a dx vs,v=.ref a∧w.Z a∧H a=some (.ins C dx (fs.zip vs))∧fs.length=xs.length∧qb w H xs vs
noncomputable def qb (w:Wd) (H:Hp):List D→List V→Prop
 | [],vs=>vs=[]
 | d::ds,vs=>∃ v r,vs=v::r∧Rep w H d v∧qb w H ds r
end
noncomputable def Fz (o o':Option HO):Prop:=o'=o∨∃ ob kvs,o=some (.dK kvs)∧o'=some (.frz ob (.dK kvs))
theorem Fz.trans {a b c:Option HO} (x:Fz a b) (y:Fz b c):Fz a c:=by
 rcases x with rfl | ⟨ob,kvs,rfl,rfl⟩
 · exact y
 · rcases y with rfl | ⟨_,_,e,_⟩
   · exact .inr ⟨ob,kvs,rfl,rfl⟩
   · cases e
theorem Fz.ne {a b:Option HO} (x:Fz a b) (h:a ≠ none):b ≠ none:=by
 rcases x with rfl | ⟨ob,kvs,rfl,rfl⟩
 · exact h
 · simp
theorem Fz.rd {H H':Hp} {a:Addr} {kvs:List (Key × V)} (x:Fz (H a) (H' a)) (h:Rd H a (.dK kvs)):Rd H' a (.dK kvs):=by
 rcases h with h | ⟨o,h⟩
 · rw[h]at x
   rcases x with x | ⟨ob,kvs',e,x⟩
   · exact .inl x
   · cases e;exact .inr ⟨ob,x⟩
 · rw[h]at x
   rcases x with x | ⟨ob,kvs',e,x⟩
   · exact .inr ⟨o,x⟩
   · cases e
structure Le (w:Wd) (H:Hp) (w':Wd) (H':Hp):Prop where
 pre:w.ρ <+: w'.ρ
 z:∀ a,w.Z a→w'.Z a
 h:∀ a,w.Z a→Fz (H a) (H' a)
theorem Le.refl (w:Wd) (H:Hp):Le w H w H:=⟨List.prefix_refl _,fun _ z=>z,fun _ _=>.inl rfl⟩
theorem Le.trans {w w1 w2:Wd} {H H1 H2:Hp} (a:Le w H w1 H1) (b:Le w1 H1 w2 H2):Le w H w2 H2 :=
 ⟨a.pre.trans b.pre,fun x z=>b.z x (a.z x z),fun x z=>(a.h x z).trans (b.h x (a.z x z))⟩
theorem Le.at_ {w w':Wd} {H H':Hp} (l:Le w H w' H') {i:Nat} {a:Addr} (h:w.ρ[i]? =some a):w'.ρ[i]? =some a:=by
 obtain ⟨r,e⟩:=l.pre
 rw[← e,List.getElem?_append_left (List.getElem?_eq_some_iff.mp h).1]
 exact h
theorem Le.lst {w w':Wd} {H H':Hp} (l:Le w H w' H') {a:Addr} {vs:List V} (z:w.Z a) (h:H a=some (.lst vs)):H' a=some (.lst vs):=by
 rcases l.h a z with e | ⟨_,_,e,_⟩
 · rw[e,h]
 · rw[h]at e;cases e
theorem Le.tup {w w':Wd} {H H':Hp} (l:Le w H w' H') {a:Addr} {vs:List V} (z:w.Z a) (h:H a=some (.tup vs)):H' a=some (.tup vs):=by
 rcases l.h a z with e | ⟨_,_,e,_⟩
 · rw[e,h]
 · rw[h]at e;cases e
theorem Le.ins {w w':Wd} {H H':Hp} (l:Le w H w' H') {a C dx:Addr} {vs:List (Str × V)} (z:w.Z a) (h:H a=some (.ins C dx vs)):H' a=some (.ins C dx vs):=by
 rcases l.h a z with e | ⟨_,_,e,_⟩
 · rw[e,h]
 · rw[h]at e;cases e
mutual
theorem Rep.mono {w w':Wd} {H H':Hp} (l:Le w H w' H'):∀ {d:D} {v:V},Rep w H d v→Rep w' H' d v
 | .non,_,h=>h
 | .bl _,_,h=>h
 | .int _,_,h=>h
 | .str _,_,h=>h
 | .ty _,_,h=>h
 | .at_ _,_,h=>h
 | .ref _,_,⟨a,e,h⟩=>⟨a,l.at_ e,h⟩
 | .lst _,_,⟨a,vs,e,z,h,r⟩=>⟨a,vs,e,l.z a z,l.lst z h,qb.mono l r⟩
 | .tup _,_,⟨a,vs,e,z,h,r⟩=>⟨a,vs,e,l.z a z,l.tup z h,qb.mono l r⟩
 | .dct _ _,_,⟨a,vs,e,z,h,n,r⟩=>⟨a,vs,e,l.z a z,(l.h a z).rd h,n,qb.mono l r⟩
 | .obj _ _ _,_,⟨a,dx,vs,e,z,h,n,r⟩=>⟨a,dx,vs,e,l.z a z,l.ins z h,n,qb.mono l r⟩
theorem qb.mono {w w':Wd} {H H':Hp} (l:Le w H w' H'):∀ {ds:List D} {vs:List V},qb w H ds vs→qb w' H' ds vs
 | [],_,h=>h
 | _::_,_,⟨v,r,e,h,t⟩=>⟨v,r,e,Rep.mono l h,qb.mono l t⟩
end
theorem qb.length {w:Wd} {H:Hp}:∀ {ds:List D} {vs:List V},qb w H ds vs→ds.length=vs.length
 | [],vs,h=>by cases (show vs=[] from h);rfl
 | _::_,_,⟨v,r,e,_,t⟩=>by rw[e,List.length_cons,List.length_cons,qb.length t]
theorem qb.get {w:Wd} {H:Hp}:∀ {ds:List D} {vs:List V} {i:Nat} {d:D},qb w H ds vs→ds[i]? =some d→∃ v,vs[i]? =some v∧Rep w H d v
 | [],_,_,_,_,e=>by simp at e
 | d'::_,_,0,d,⟨v,r,e,h,_⟩,q=>by
   subst e
   have z:d'=d:=by simpa using q
   subst z
   exact⟨v,rfl,h⟩
 | _::ds,_,i+1,d,⟨v,r,e,_,t⟩,q=>by
   subst e
   obtain ⟨u,h1,h2⟩:=qb.get (i:=i) t (by simpa using q)
   exact⟨u,by simpa using h1,h2⟩
theorem qb.get' {w:Wd} {H:Hp} {ds:List D} {vs:List V} {i:Nat} {v:V} (h:qb w H ds vs) (e:vs[i]? =some v):∃ d,ds[i]? =some d∧Rep w H d v:=by
 have hl:i < ds.length:=by rw[h.length];exact(List.getElem?_eq_some_iff.mp e).1
 obtain ⟨u,e',r⟩:=h.get (List.getElem?_eq_getElem hl)
 rw[e]at e';cases e'
 exact⟨_,List.getElem?_eq_getElem hl,r⟩
theorem qb.append {w:Wd} {H:Hp}:∀ {ds es:List D} {vs us:List V},qb w H ds vs→qb w H es us→qb w H (ds++es) (vs++us)
 | [],_,vs,_,h,k=>by cases (show vs=[] from h);exact k
 | _::_,_,_,_,⟨v,r,e,h,t⟩,k=>by subst e;exact⟨v,r++_,rfl,h,qb.append t k⟩
theorem qb.one {w:Wd} {H:Hp} {d:D} {v:V} (h:Rep w H d v):qb w H [d] [v]:=⟨v,[],rfl,h,rfl⟩
theorem qb.cons {w:Wd} {H:Hp} {d:D} {v:V} {ds:List D} {vs:List V} (h:Rep w H d v) (t:qb w H ds vs):qb w H (d::ds) (v::vs):=⟨v,vs,rfl,h,t⟩
theorem qb.set {w:Wd} {H:Hp} {d:D} {v:V} (r:Rep w H d v):∀ {ds:List D} {vs:List V} (i:Nat),qb w H ds vs→qb w H (ds.set i d) (vs.set i v)
 | [],_,_,h=>by cases (show _=[] from h);rfl
 | _::_,_,0,⟨u,s,e,h,t⟩=>by subst e;exact⟨v,s,rfl,r,t⟩
 | _::_,_,i+1,⟨u,s,e,h,t⟩=>by subst e;exact⟨u,s.set i v,rfl,h,qb.set r i t⟩
theorem qb.take {w:Wd} {H:Hp}:∀ {ds:List D} {vs:List V} (n:Nat),qb w H ds vs→qb w H (ds.take n) (vs.take n)
 | [],_,n,h=>by cases (show _=[] from h);simp [qb]
 | _::_,_,0,_=>by simp [qb]
 | _::_,_,n+1,⟨u,s,e,h,t⟩=>by subst e;exact⟨u,s.take n,rfl,h,qb.take n t⟩
theorem qb.drop {w:Wd} {H:Hp}:∀ {ds:List D} {vs:List V} (n:Nat),qb w H ds vs→qb w H (ds.drop n) (vs.drop n)
 | [],_,n,h=>by cases (show _=[] from h);simp [qb]
 | _::_,_,0,h=>h
 | _::_,_,n+1,⟨u,s,e,h,t⟩=>by subst e;exact qb.drop n t
inductive Cell where
 | gone | lst (xs:List D) | dct (ks:List Key) (xs:List D) | obj (C:Addr) (fs:List Str) (xs:List D)
noncomputable abbrev Sto:=List Cell
noncomputable def qiz (w:Wd) (H:Hp) (a:Addr):Cell→Prop
 | .gone=>True
 | .lst xs=>¬ w.Z a∧∃ vs,H a=some (.lst vs)∧qb w H xs vs
 | .dct ks xs=>¬ w.Z a∧∃ vs,H a=some (.dK (ks.zip vs))∧ks.length=xs.length∧qb w H xs vs
 | .obj C fs xs=>¬ w.Z a∧∃ dx vs,H a=some (.ins C dx (fs.zip vs))∧fs.length=xs.length∧qb w H xs vs
structure qe (w:Wd) (H:Hp) (S:Sto):Prop where
 zin:∀ a,w.Z a→H a ≠ none
 len:w.ρ.length=S.length
 nd:w.ρ.Nodup
 rin:∀ a,a ∈ w.ρ→H a ≠ none
 cell:∀ (l:Nat) (a:Addr) (c:Cell),w.ρ[l]? =some a→S[l]? =some c→qiz w H a c
theorem qiz.mono {w w':Wd} {H H':Hp} {a:Addr} {c:Cell} (l:Le w H w' H') (e:H' a=H a) (z:¬ w.Z a→¬ w'.Z a) (h:qiz w H a c):qiz w' H' a c:=by
 cases c with
 | gone=>trivial
 | lst xs=>obtain ⟨n,vs,q,r⟩:=h;exact⟨z n,vs,e.trans q,r.mono l⟩
 | dct ks xs=>obtain ⟨n,vs,q,m,r⟩:=h;exact⟨z n,vs,e.trans q,m,r.mono l⟩
 | obj C fs xs=>obtain ⟨n,dx,vs,q,m,r⟩:=h;exact⟨z n,dx,vs,e.trans q,m,r.mono l⟩
noncomputable def Wd.fix (w:Wd) (p:Addr):Wd:=⟨w.ρ,fun a=>a=p∨w.Z a⟩
theorem qdc {w:Wd} {H:Hp} {S:Sto} {p:Addr} {o:HO} (h:qe w H S) (hp:H p=none):Le w H (w.fix p) (upd H p o) :=
 ⟨List.prefix_refl _,fun _ z=>.inr z,fun a z=>.inl (qc fun e=>h.zin a z (by rw[e];exact hp))⟩
theorem qfe {w:Wd} {H:Hp} {S:Sto} {p:Addr} {o:HO} (h:qe w H S) (hp:H p=none):qe (w.fix p) (upd H p o) S:=by
 refine⟨fun a z=> ?_,h.len,h.nd,fun a m=> ?_,fun l a c e q=> ?_⟩
 · rcases z with rfl | z
   · rw[qi];simp
   · rw[qc fun e=>h.zin a z (by rw[e];exact hp)];exact h.zin a z
 · rw[qc fun e=>h.rin a m (by rw[e];exact hp)];exact h.rin a m
 · have ne:a ≠ p:=fun z=>h.rin a (List.mem_of_getElem? e) (by rw[z];exact hp)
   exact(h.cell l a c e q).mono (qdc h hp) (qc ne) fun n z=>z.elim ne n
noncomputable def Wd.more (w:Wd) (p:Addr):Wd:=⟨w.ρ++[p],w.Z⟩
theorem qhm {w:Wd} {H:Hp} {S:Sto} {p:Addr} {o:HO} (h:qe w H S) (hp:H p=none):Le w H (w.more p) (upd H p o) :=
 ⟨List.prefix_append _ _,fun _ z=>z,fun a z=>.inl (qc fun e=>h.zin a z (by rw[e];exact hp))⟩
theorem qo4 {w:Wd} {H:Hp} {S:Sto} {p:Addr} {o:HO} {c:Cell} (h:qe w H S) (hp:H p=none) (hc:qiz (w.more p) (upd H p o) p c):qe (w.more p) (upd H p o) (S++[c]):=by
 have nm:p ∉ w.ρ:=fun m=>h.rin p m hp
 refine⟨fun a z=> ?_,by simp [Wd.more,h.len],?_,fun a m=> ?_,fun l a c' e q=> ?_⟩
 · rw[qc fun e=>h.zin a z (by rw[e];exact hp)];exact h.zin a z
 · show (w.ρ++[p]).Nodup
   rw[List.nodup_append]
   exact⟨h.nd,by simp,fun a ha b hb=>by rw[List.mem_singleton.mp hb];rintro rfl;exact nm ha⟩
 · rcases List.mem_append.mp m with m | m
   · rw[qc fun e=>h.rin a m (by rw[e];exact hp)];exact h.rin a m
   · rw[List.mem_singleton.mp m,qi];simp
 · by_cases hl:l < S.length
   · rw[List.getElem?_append_left hl]at q
     have e':w.ρ[l]? =some a:=by
       have:(w.ρ++[p])[l]? =some a:=e
       rwa [List.getElem?_append_left (by rw[h.len];exact hl)]at this
     have ne:a ≠ p:=fun z=>h.rin a (List.mem_of_getElem? e') (by rw[z];exact hp)
     exact(h.cell l a c' e' q).mono (qhm h hp) (qc ne) id
   · have hl2:l=S.length:=by
       have:=(List.getElem?_eq_some_iff.mp q).1
       rw[List.length_append]at this
       simp at this
       omega
     subst hl2
     have:(w.ρ++[p])[S.length]? =some a:=e
     rw[← h.len,List.getElem?_append_right (Nat.le_refl _)]at this
     have:p=a:=by simpa using this
     subst this
     have:(S++[c])[S.length]? =some c':=q
     rw[List.getElem?_append_right (Nat.le_refl _)]at this
     have:c=c':=by simpa using this
     subst this
     exact hc
theorem qbm {w:Wd} {H:Hp} {a:Addr} {o:HO} (z:¬ w.Z a):Le w H w (upd H a o):=⟨List.prefix_refl _,fun _ z=>z,fun b zb=>.inl (qc fun e=>z (by rw[← e];exact zb))⟩
theorem qgk {w:Wd} {H:Hp} {S:Sto} {l:Nat} {a:Addr} {o:HO} {c:Cell} (h:qe w H S) (e:w.ρ[l]? =some a) (z:¬ w.Z a) (hc:qiz w (upd H a o) a c):qe w (upd H a o) (S.set l c):=by
 refine⟨fun b zb=> ?_,by simp [h.len],h.nd,fun b m=> ?_,fun j b c' ej q=> ?_⟩
 · rw[qc fun e=>z (by rw[← e];exact zb)];exact h.zin b zb
 · by_cases hb:b=a
   · rw[hb,qi];simp
   · rw[qc hb];exact h.rin b m
 · by_cases hj:j=l
   · subst hj
     rw[e]at ej;cases ej
     rw[List.getElem?_set]at q
     simp only [if_true]at q
     split at q
     · cases q;exact hc
     · cases q
   · rw[List.getElem?_set_ne (Ne.symm hj)]at q
     have ne:b ≠ a:=fun hb=>hj (by subst hb;exact(qo3 h.nd e ej).symm)
     exact(h.cell j b c' ej q).mono (qbm z) (qc ne) id
theorem qdd (w:Wd) (H:Hp) (a:Addr):Le w H (w.fix a) H:=⟨List.prefix_refl _,fun _ z=>.inr z,fun _ _=>.inl rfl⟩
theorem qgl {w:Wd} {H:Hp} {S:Sto} {l:Nat} {a:Addr} (h:qe w H S) (e:w.ρ[l]? =some a):qe (w.fix a) H (S.set l .gone):=by
 refine⟨fun b z=> ?_,by simp [Wd.fix,h.len],h.nd,h.rin,fun j b c ej q=> ?_⟩
 · rcases z with rfl | z
   · exact h.rin b (List.mem_of_getElem? e)
   · exact h.zin b z
 · by_cases hj:j=l
   · subst hj
     rw[List.getElem?_set]at q
     simp only [if_true]at q
     split at q
     · cases q;trivial
     · cases q
   · rw[List.getElem?_set_ne (Ne.symm hj)]at q
     have ne:b ≠ a:=fun hb=>hj (by subst hb;exact(qo3 h.nd e ej).symm)
     exact(h.cell j b c ej q).mono (qdd w H a) rfl fun n z=>z.elim ne n
structure Exn where
 C:Addr
 fs:List Str
 xs:List D
inductive Out (α:Type) where
 | ok (a:α) (S:Sto) | err (x:Exn) (S:Sto) | no
noncomputable abbrev M (α:Type):=Sto→Out α
noncomputable def M.pure {α:Type} (a:α):M α:=fun S=>.ok a S
noncomputable def M.bind {α β:Type} (m:M α) (k:α→M β):M β:=fun S=>match m S with
 | .ok a S'=>k a S'
 | .err x S'=>.err x S'
 | .no=>.no
noncomputable def M.fail {α:Type}:M α:=fun _=>.no
noncomputable abbrev XW:=Exn→Wd→Hp→Prop
noncomputable def Wp {α:Type} (E:XW) (w:Wd) (H:Hp) (r:Out α) (P:α→Sto→Wd→Hp→Prop):Prop:=match r with
 | .ok a S=>∀ w' H',Le w H w' H'→qe w' H' S→P a S w' H'
 | .err x S=>∀ w' H',Le w H w' H'→qe w' H' S→E x w' H'
 | .no=>False
theorem Wp.later {α:Type} {E:XW} {w w1:Wd} {H H1:Hp} {r:Out α} {P:α→Sto→Wd→Hp→Prop} (h:Wp E w H r P) (l:Le w H w1 H1):Wp E w1 H1 r P:=by
 cases r with
 | ok a S=>exact fun w' H' l'=>h w' H' (l.trans l')
 | err x S=>exact fun w' H' l'=>h w' H' (l.trans l')
 | no=>exact h
theorem Wp.mono {α:Type} {E:XW} {w:Wd} {H:Hp} {r:Out α} {P P':α→Sto→Wd→Hp→Prop} (h:Wp E w H r P) (k:∀ a S w' H',Le w H w' H'→qe w' H' S→P a S w' H'→P' a S w' H'):Wp E w H r P':=by
 cases r with
 | ok a S=>exact fun w' H' l' q=>k a S w' H' l' q (h w' H' l' q)
 | err x S=>exact h
 | no=>exact h
theorem Wp.bind {α β:Type} {E:XW} {w:Wd} {H:Hp} {m:M α} {k:α→M β} {S:Sto} {P:β→Sto→Wd→Hp→Prop} (h:Wp E w H (M.bind m k S) P) :
   Wp E w H (m S) (fun a S1 w1 H1=>Wp E w1 H1 (k a S1) P):=by
 unfold M.bind at h
 cases e:m S with
 | ok a S1=>rw[e]at h;exact fun w' H' l _=>Wp.later h l
 | err x S1=>rw[e]at h;exact h
 | no=>rw[e]at h;exact h
noncomputable abbrev Env:=List (Option D)
structure Rel (w:Wd) (H:Hp) (σ:St) (Γ:Env):Prop where
 len:Γ.length=σ.length
 at_:∀ (i:Nat) (d:D),Γ[i]? =some (some d)→∃ v,σ[i]? =some (some v)∧Rep w H d v
theorem Rel.mono {w w':Wd} {H H':Hp} {σ:St} {Γ:Env} (r:Rel w H σ Γ) (l:Le w H w' H'):Rel w' H' σ Γ:=⟨r.len,fun i d e=>let ⟨v,e',h⟩:=r.at_ i d e;⟨v,e',h.mono l⟩⟩
theorem Rel.set {w:Wd} {H:Hp} {σ:St} {Γ:Env} {i:Nat} {d:D} {v:V} (r:Rel w H σ Γ) (h:Rep w H d v):Rel w H (σ.set i (some v)) (Γ.set i (some d)):=by
 refine⟨by simp [r.len],fun j e q=> ?_⟩
 by_cases hj:j=i
 · subst hj
   rw[List.getElem?_set]at q
   simp only [if_true]at q
   split at q
   · rename_i hl
     cases q
     exact⟨v,by simp [List.getElem?_set,r.len ▸ hl],h⟩
   · cases q
 · rw[List.getElem?_set_ne (Ne.symm hj)]at q ⊢
   exact r.at_ j e q
noncomputable def tD (E:XW) (f:Env→M D):TE:=fun σ H Q=>∃ w Γ S,Rel w H σ Γ∧qe w H S∧Wp E w H (f Γ S) fun d _ w' H'=>∀ v,Rep w' H' d v→Q v H'
noncomputable def tB (E:XW) (f:Env→M Bool):TT:=fun σ H Q=>∃ w Γ S,Rel w H σ Γ∧qe w H S∧Wp E w H (f Γ S) fun b _ _ H'=>Q b H'
noncomputable def tL (E:XW) (f:Env→M (List D)):TA:=fun σ H Q=>∃ w Γ S,Rel w H σ Γ∧qe w H S∧Wp E w H (f Γ S) fun ds _ w' H'=>∀ vs,qb w' H' ds vs→Q vs H'
theorem PE.mono {X:Cx} {e:Expr} {t t':TE} (h:PE X e t) (k:∀ σ H Q,t' σ H Q→t σ H Q):PE X e t':=fun pins s σ H Q I q=>h pins s σ H Q I (k σ H Q q)
theorem PT.mono {X:Cx} {e:Expr} {t t':TT} (h:PT X e t) (k:∀ σ H Q,t' σ H Q→t σ H Q):PT X e t':=fun pins s σ H Q I q=>h pins s σ H Q I (k σ H Q q)
theorem PA.mono {X:Cx} {e:List Expr} {t t':TA} (h:PA X e t) (k:∀ σ H Q,t' σ H Q→t σ H Q):PA X e t':=fun pos pins s σ H Q I q=>h pos pins s σ H Q I (k σ H Q q)
theorem PS.mono {X:Cx} {e:Stmt} {t t':TS} (h:PS X e t) (k:∀ D σ H,t' D σ H→t D σ H):PS X e t':=fun pins s σ H D I q=>h pins s σ H D I (k D σ H q)
theorem PSs.mono {X:Cx} {e:List Stmt} {t t':TS} (h:PSs X e t) (k:∀ D σ H,t' D σ H→t D σ H):PSs X e t':=fun pins s σ H D I q=>h pins s σ H D I (k D σ H q)
theorem qd {α:Type} {E:XW} {f:Env→M D} {k:D→Env→M α} {σ:St} {H:Hp} {w:Wd} {Γ:Env} {S:Sto} {P:α→Sto→Wd→Hp→Prop} {Q:VK} (r:Rel w H σ Γ) (h:qe w H S)
   (q:Wp E w H (M.bind (f Γ) (fun d=>k d Γ) S) P)
   (hk:∀ d v S1 w1 H1,Le w H w1 H1→Rel w1 H1 σ Γ→qe w1 H1 S1→Rep w1 H1 d v→Wp E w1 H1 (k d Γ S1) P→Q v H1):tD E f σ H Q :=
 ⟨w,Γ,S,r,h,(Wp.bind q).mono fun d S1 w1 H1 l h1 q1 v rv=>hk d v S1 w1 H1 l (r.mono l) h1 rv q1⟩
end T3
namespace L2
open PySem PySem.Spec PyProof.Rows
section
variable {X:Cx} {pins:List (Addr × Obj)} {σ:St} {H:Hp} {s:Shared}
end
section
variable {X:Cx}
noncomputable def qaat (K:PySem.W.Frag):List V→Hp→VK→Prop:=fun vs H Q=>∃ (l:Addr) (ns:List Int),vs=[.ref l]∧SqL K H l (ns.map V.int)∧0 < ns.length∧∀ M,M ∈ ns→(∀ a,a ∈ ns→M≤a)→Q (.int M) H
theorem qsd:∀ {ns:List Int} {its:List Value},Vals (ns.map V.int) its→IntsAre its ns
 | [],its,h=>by cases h;exact .nil
 | n ::ns,its,h=>by
   cases h with
   | cons r t =>
     obtain ⟨k,rfl⟩:=r
     exact .cons n k (qsd t)
theorem qxx (hc:X.calm=true):qal X (.builtin "min") (qaat X.K):=by
 intro pins s σ H xs us Q I r h
 obtain ⟨l,ns,rfl,hq,hne,q⟩:=h
 obtain ⟨u,rfl,ru⟩:=r.one
 cases ru
 obtain ⟨its,rv,p,hz⟩:=I.list hq
 have hi:=qsd rv
 obtain ⟨ys,e⟩:=hi.allInts.items
 have hns:ns=ys.toList.map (·.1):=by rw[← hi.numsOf,← nums_intItems,← e]
 have hsz:0 < ys.size:=by
   have h3:=hne;rw[hns,List.length_map,Array.length_toList]at h3;exact h3
 have hl:=p.isList
 rw[e]at hl
 refine min_intList (I.ok.hd hc) hl hsz fun v h' tk hv hk=> ?_
 obtain ⟨t,rfl⟩:=intItems_at hv
 obtain ⟨h1,h2⟩:=argBest_lt (numAt ys) (ys.size - 1)
 refine⟨.int _,H,I.kept hk,⟨_,rfl⟩,q _ ?_ fun a ha=> ?_⟩
 · rw[hns,numAt_eq];exact getD_mem (by rw[List.length_map,Array.length_toList];omega)
 · rw[hns]at ha
   obtain ⟨j,hj,rfl⟩:=mem_getD ha
   rw[List.length_map,Array.length_toList]at hj
   rw[← numAt_eq];exact h2 j (by omega)
end
section
variable {prog:Program} {w:World} {A:Around} {E:Value→Shared→Prop}
theorem qaau {it l:Addr} {vs:Array Value} (hne:l ≠ it) (n:Nat):∀ (i:Nat) (s:Shared) (Q:List Value→Shared→Prop),s.heap.IsListIter it l i→s.heap.IsList l vs→i+n≤vs.size →
   (∀ h',h'.IsListIter it l (i+n)→Heap.SameBut it s.heap h'→Q ((vs.toList.drop i).take n) { s with heap:=h' })→wpAny (model prog w) A (draw (.ref it) n) Q E s:=by
 induction n with
 | zero =>
   intro i s Q hit _ _ q
   have q0:=q s.heap hit (Heap.SameBut.refl ..)
   rw[List.take_zero]at q0
   exact wpAny_pure q0
 | succ n ih =>
   intro i s Q hit ht hle q
   have hlt:i < vs.size:=by omega
   have e:(vs.toList.drop i).take (n+1)=vs[i]::(vs.toList.drop (i+1)).take n:=by
     rw[show vs.toList.drop i=vs[i]::vs.toList.drop (i+1)by simp [List.drop_eq_getElem_cons,hlt],List.take_succ_cons]
   unfold draw
   refine wpAny_bind (wpAny_pyNext_list_item hit ht (x:=vs[i]) (by simp [hlt]) fun h1 hit1 hs1=>wpAny_bind (wpAny_holding (ih (i+1) _ _ hit1 (ht.extBut hs1.extBut hne) (by omega) fun h2 hit2 hs2=>wpAny_pure ?_)))
   have q':=q h2 (by rw[show i+(n+1)=i+1+n by omega];exact hit2) (hs1.trans hs2)
   rwa [e]at q'
theorem q25 {s:Shared} {l:Addr} {vs:Array Value} {Q:List Value→Shared→Prop} (hh:A.handled=none) (ht:s.heap.IsList l vs)
   (q:∀ h',Heap.ExtBut s.heap.objs.size s.heap h'→Q vs.toList { s with heap:=h' }):wpAny (model prog w) A (unpackItems (.ref l) vs.size none) Q E s:=by
 have hlt:l ≠ s.heap.objs.size:=by obtain ⟨o,ho,_⟩:=ht;exact Nat.ne_of_lt (Heap.lt_size ho)
 have e:(vs.toList.drop 0).take vs.size=vs.toList:=by rw[List.drop_zero,List.take_of_length_le (by simp)]
 unfold unpackItems notIterableAtAll
 refine wpAny_bind (wpAny_bind (wpAny_specialOf ht.typeIs slot_list_iter.lookup (wpAny_pure ?_)))
 simp only [Bool.false_eq_true,if_false]
 refine wpAny_bind (wpAny_holding (wpAny_pyIter_list ht (wpAny_bind (wpAny_holding (qaau hlt vs.size 0 _ _ ⟨_,Heap.get?_push_size _ rfl,rfl,rfl⟩ (ht.push _) (by omega) fun h1 hit1 hs1=> ?_)))))
 rw[e,if_neg (by simp)]
 refine wpAny_bind (wpAny_holding (wpAny_pyNext_list_end hh hit1 ((ht.push _).extBut hs1.extBut hlt) (by simp) fun h2 he2=> ?_))
 simp only [Option.isSome_none,Bool.false_eq_true,if_false]
 exact wpAny_pure (q h2 fun b o hb eb=>he2 b o hb (hs1.extBut b o hb (Heap.get?_push_of_some _ eb)))
end
section
variable {X:Cx}
noncomputable def qaav (K:PySem.W.Frag) (n:Nat) (t:TGs):TG:=fun v σ H Q=>∃ a xs,v=.ref a∧SqL K H a xs∧xs.length=n∧t xs σ H Q
theorem q26 {es:List Expr} {k:Nat} {t:TGs} {n:Nat} {pos:Pos} (hc:X.calm=true) (h:PGs X es t)
   (hn:(assignEach es X.env).length=n:=by rfl) (hst:(assignEach es X.env).findIdx? (·.1)=none:=by rfl):PG X (.Tuple es k pos) (qaav X.K n t):=by
 intro pins s σ H v u Q I r hw
 obtain ⟨a,xs,e1,hq,hl,hw⟩:=hw
 subst e1
 cases r
 obtain ⟨its,rv,p,hz⟩:=I.list hq
 have hlen:=rv.length
 rw[arm_assign_Tuple]
 refine wpAny_bind (wpAny_standAt ?_)
 unfold unpack
 rw[show (assignEach es X.env).length=its.toArray.size by simp [hn,← hl,rv.length],hst]
 refine wpAny_bind (wpAny_holding (q25 (I.ok.hd hc) p.isList fun h' hx=> ?_))
 have I1:Inv X pins σ H { s with heap:=h' }:=I.kept (t':=s.toks) fun b o e=>hx b o (Nat.ne_of_lt (Heap.lt_size e)) e
 exact h pins _ σ H xs _ Q I1 (by simpa using rv) hw
noncomputable def qwb (i j:Int):Prop:=(-2582249878086908589655919172003011874329705792829223512830659356540647622016841194629645353280137831435903171972747493376 < i∧i < 2582249878086908589655919172003011874329705792829223512830659356540647622016841194629645353280137831435903171972747493376)∧ -2582249878086908589655919172003011874329705792829223512830659356540647622016841194629645353280137831435903171972747493376 < j∧j < 2582249878086908589655919172003011874329705792829223512830659356540647622016841194629645353280137831435903171972747493376
theorem qse {k:Int} (h1: -2582249878086908589655919172003011874329705792829223512830659356540647622016841194629645353280137831435903171972747493376 < k) (h2:k < 2582249878086908589655919172003011874329705792829223512830659356540647622016841194629645353280137831435903171972747493376):Builtin.Int.intBits k≤2 ^ 20:=by
 unfold Builtin.Int.intBits
 split
 · exact Nat.zero_le _
 · have hn:k.natAbs < 2582249878086908589655919172003011874329705792829223512830659356540647622016841194629645353280137831435903171972747493376:=by omega
   have hn2:k.natAbs < 2 ^ 400:=by
     have:(2:Nat) ^ 400=2582249878086908589655919172003011874329705792829223512830659356540647622016841194629645353280137831435903171972747493376:=by decide +kernel
     rw[this];exact hn
   have h0:k.natAbs ≠ 0:=by
     rename_i h
     intro z
     apply h
     have:k=0:=by omega
     rw[this];rfl
   have:=(Nat.log2_lt h0).mpr hn2
   have e:(2:Nat) ^ 20=1048576:=by decide
   omega
theorem q27:OpR X (binaryOp .Mult) (rI qwb fun i j=>.int (i * j)):=opI fun _ _ _ _ _ _ _ hc q=>mul_int q (.of_bits (qse hc.1.1 hc.1.2) (qse hc.2.1 hc.2.2))
end
end L2
namespace T3
open PySem PySem.Spec PyProof.Rows L2
noncomputable def D.flat:D→Option V
 | .non=>some .non
 | .bl b=>some (.bl b)
 | .int i=>some (.int i)
 | .str x=>some (.str x)
 | _=>none
mutual
noncomputable def eqD:D→D→Option Bool
 | .lst xs,y=>match y with
   | .lst ys=>if xs.length=ys.length then qbd xs ys else some false
   | _=>none
 | .tup xs,y=>match y with
   | .tup ys=>if xs.length=ys.length then qbd xs ys else none
   | _=>none
 | .non,y=>y.flat.map (eqV .non)
 | .bl b,y=>y.flat.map (eqV (.bl b))
 | .int i,y=>y.flat.map (eqV (.int i))
 | .str x,y=>y.flat.map (eqV (.str x))
 | _,_=>none
noncomputable def qbd:List D→List D→Option Bool
 | [],ys=>match ys with
   | []=>some true
   | _=>none
 | x ::xs,ys=>match ys with
   | y::ys=>match eqD x y,qbd xs ys with
     | some a,some b=>some (a && b)
     | _,_=>none
   | []=>none
end
mutual
noncomputable def D.dep:D→Nat
 | .lst xs=>qkx xs+1
 | .tup xs=>qkx xs+1
 | _=>0
noncomputable def qkx:List D→Nat
 | []=>0
 | d::ds=>max d.dep (qkx ds)
end
theorem qgm:∀ {ds:List D} {i:Nat} {d:D},ds[i]? =some d→d.dep≤qkx ds
 | [],_,_,e=>by simp at e
 | x::xs,0,d,e=>by
   have:x=d:=by simpa using e
   subst this
   exact Nat.le_max_left _ _
 | x::xs,i+1,d,e=>Nat.le_trans (qgm (ds:=xs) (i:=i) (by simpa using e)) (Nat.le_max_right _ _)
theorem qwc:∀ {xs ys:List D} {b:Bool} {j:Nat} {x y:D},qbd xs ys=some b→xs[j]? =some x→ys[j]? =some y→∃ c,eqD x y=some c
 | [],ys,_,j,x,y,_,h1,_=>by simp at h1
 | _::_,[],_,j,x,y,_,_,h2=>by simp at h2
 | a ::xs,c::ys,b,j,x,y,h,h1,h2=>by
   rw[qbd]at h
   cases e1:eqD a c with
   | none=>rw[e1]at h;simp at h
   | some p =>
     cases e2:qbd xs ys with
     | none=>rw[e1,e2]at h;simp at h
     | some q =>
       cases j with
       | zero =>
         simp at h1 h2
         subst h1 h2
         exact⟨p,e1⟩
       | succ j=>exact qwc e2 (by simpa using h1) (by simpa using h2)
noncomputable def qe2 (xs ys:List D) (j:Nat):Bool:=(eqD (xs.getD j .non) (ys.getD j .non)).getD false
theorem qde:∀ {xs ys:List D} {b:Bool},qbd xs ys=some b→(List.range xs.length).all (qe2 xs ys)=b
 | [],[],b,h=>by simp [qbd]at h;simp [h]
 | [],_::_,_,h=>by simp [qbd]at h
 | _::_,[],_,h=>by simp [qbd]at h
 | x ::xs,y::ys,b,h=>by
   rw[qbd]at h
   cases e1:eqD x y with
   | none=>rw[e1]at h;simp at h
   | some p =>
     cases e2:qbd xs ys with
     | none=>rw[e1,e2]at h;simp at h
     | some q =>
       rw[e1,e2]at h
       have h:(p && q)=b:=by simpa using h
       rw[List.length_cons,List.range_succ_eq_map,List.all_cons,List.all_map]
       have e3:(qe2 (x::xs) (y::ys) ∘ Nat.succ)=qe2 xs ys:=rfl
       rw[e3,qde e2,← h]
       have:qe2 (x::xs) (y::ys) 0=p:=by show (eqD x y).getD false=p;rw[e1];rfl
       rw[this]
theorem qls {w:Wd} {H:Hp} {d:D} {v x:V} (h:Rep w H d v) (f:d.flat=some x):v=x∧qox v=true:=by
 cases d <;> simp only [D.flat]at f <;> cases f <;> (simp only [Rep]at h;subst h;exact⟨rfl,rfl⟩)
section
variable {X:Cx} {pins:List (Addr × Obj)} {σ:St} {H:Hp} {s:Shared}
theorem qbw {w:Wd} {A:Around} {d e:D} {x y z:V} {v u:Value} {b:Bool} (hz:d.flat=some z) (q:e.flat.map (eqV z)=some b) (hx:Rep w H d x) (hy:Rep w H e y) (rx:RelV x v) (ry:RelV y u):SeqAt.EqAt A s v u b:=by
 obtain ⟨rfl,f1⟩:=qls hx hz
 cases he:e.flat with
 | none=>rw[he]at q;simp at q
 | some z' =>
   rw[he]at q
   obtain ⟨rfl,f2⟩:=qls hy he
   have:eqV x y=b:=by simpa using q
   subst this
   exact q6n rx ry f1 f2
theorem qf0 {w:Wd} {xs ys:List D} {vs ws:List V} {ia ib:List Value} {b:Bool} (hvs:qb w H xs vs) (hws:qb w H ys ws) (ra:Vals vs ia) (rb:Vals ws ib) (hb:qbd xs ys=some b) {j:Nat} (h1:j < ia.length) (h2:j < ib.length) :
   ∃ x y v u,xs[j]? =some x∧eqD x y=some (qe2 xs ys j)∧Rep w H x v∧Rep w H y u∧RelV v ia[j]∧RelV u ib[j]:=by
 have la:=ra.length;have lb:=rb.length
 have l1:=hvs.length;have l2:=hws.length
 have hx:j < xs.length:=by omega
 have hy:j < ys.length:=by omega
 obtain ⟨v1,e1,q1⟩:=hvs.get (List.getElem?_eq_getElem hx)
 obtain ⟨v2,e2,q2⟩:=hws.get (List.getElem?_eq_getElem hy)
 obtain ⟨u1,f1,s1⟩:=ra.get e1
 obtain ⟨u2,f2,s2⟩:=rb.get e2
 obtain ⟨c,hc⟩:=qwc hb (List.getElem?_eq_getElem hx) (List.getElem?_eq_getElem hy)
 obtain ⟨_,g1⟩:=List.getElem?_eq_some_iff.mp f1
 obtain ⟨_,g2⟩:=List.getElem?_eq_some_iff.mp f2
 refine⟨xs[j],ys[j],v1,v2,List.getElem?_eq_getElem hx,?_,q1,q2,by rw[g1];exact s1,by rw[g2];exact s2⟩
 have z1:xs.getD j .non=xs[j]:=by simp [hx]
 have z2:ys.getD j .non=ys[j]:=by simp [hy]
 unfold qe2
 rw[z1,z2,hc]
 rfl
mutual
theorem Rep.uniq {w:Wd}:∀ {d e:D} {v:V} {b:Bool},Rep w H d v→Rep w H e v→eqD d e=some b→b=true
 | .non,e,v,b,h,k,q=>by
   simp only [Rep]at h;subst h
   cases e <;> simp only [Rep]at k <;> simp [eqD,D.flat,eqV]at q k <;> first | exact q.symm ▸ rfl | done
 | .bl x,e,v,b,h,k,q=>by
   simp only [Rep]at h;subst h
   cases e <;> simp only [Rep]at k <;> simp [eqD,D.flat,eqV]at q k <;> first | (subst k;simpa using q.symm) | done
 | .int x,e,v,b,h,k,q=>by
   simp only [Rep]at h;subst h
   cases e <;> simp only [Rep]at k <;> simp [eqD,D.flat,eqV]at q k <;> first | (subst k;simpa using q.symm) | done
 | .str x,e,v,b,h,k,q=>by
   simp only [Rep]at h;subst h
   cases e <;> simp only [Rep]at k <;> simp [eqD,D.flat,eqV]at q k <;> first | (subst k;simpa using q.symm) | done
 | .lst xs,e,v,b,⟨a,vs,e1,_,h1,r⟩,k,q=>by
   cases e with
   | lst ys =>
     obtain ⟨a',vs',e2,_,h2,r'⟩:=k
     rw[e1]at e2;cases e2
     rw[h1]at h2;cases h2
     rw[eqD]at q
     simp only [show xs.length=ys.length by rw[r.length,r'.length],if_true]at q
     exact qb.uniq r r' q
   | _=>simp [eqD]at q
 | .tup xs,e,v,b,⟨a,vs,e1,_,h1,r⟩,k,q=>by
   cases e with
   | tup ys =>
     obtain ⟨a',vs',e2,_,h2,r'⟩:=k
     rw[e1]at e2;cases e2
     rw[h1]at h2;cases h2
     rw[eqD]at q
     simp only [show xs.length=ys.length by rw[r.length,r'.length],if_true]at q
     exact qb.uniq r r' q
   | _=>simp [eqD]at q
 | .ty _,_,_,_,_,_,h=>by simp [eqD]at h
 | .at_ _,_,_,_,_,_,h=>by simp [eqD]at h
 | .ref _,_,_,_,_,_,h=>by simp [eqD]at h
 | .dct _ _,_,_,_,_,_,h=>by simp [eqD]at h
 | .obj _ _ _,_,_,_,_,_,h=>by simp [eqD]at h
theorem qb.uniq {w:Wd}:∀ {ds es:List D} {vs:List V} {b:Bool},qb w H ds vs→qb w H es vs→qbd ds es=some b→b=true
 | [],[],_,b,_,_,h=>by simp [qbd]at h;exact h.symm ▸ rfl
 | [],_::_,_,_,_,_,h=>by simp [qbd]at h
 | _::_,[],_,_,_,_,h=>by simp [qbd]at h
 | d ::ds,e::es,_,b,⟨v,r,e1,hd,t⟩,⟨v',r',e2,hd',t'⟩,h=>by
   rw[e1]at e2;cases e2
   rw[qbd]at h
   cases e1:eqD d e with
   | none=>rw[e1]at h;simp at h
   | some p =>
     cases e2:qbd ds es with
     | none=>rw[e1,e2]at h;simp at h
     | some q =>
       rw[e1,e2]at h
       have h:(p && q)=b:=by simpa using h
       rw[← h,Rep.uniq hd hd' e1,qb.uniq t t' e2]
       rfl
end
theorem qlt {w:Wd} (I:Inv X pins σ H s):∀ (n:Nat) (A:Around) (d e:D) (x y:V) (v u:Value) (b:Bool),d.dep≤n→A.units+n < cLine→eqD d e=some b→Rep w H d x→Rep w H e y→RelV x v→RelV y u→SeqAt.EqAt A s v u b:=by
 intro n
 induction n with
 | zero =>
   intro A d e x y v u b hd hu hb hx hy rx ry
   cases d with
   | lst xs=>simp [D.dep]at hd
   | tup xs=>simp [D.dep]at hd
   | non=>exact qbw (d:=.non) rfl (by simpa [eqD]using hb) hx hy rx ry
   | bl b=>exact qbw (d:=.bl b) rfl (by simpa [eqD]using hb) hx hy rx ry
   | int i=>exact qbw (d:=.int i) rfl (by simpa [eqD]using hb) hx hy rx ry
   | str z=>exact qbw (d:=.str z) rfl (by simpa [eqD]using hb) hx hy rx ry
   | _=>simp [eqD]at hb
 | succ n ih =>
   intro A d e x y v u b hd hu hb hx hy rx ry
   cases d with
   | non=>exact qbw (d:=.non) rfl (by simpa [eqD]using hb) hx hy rx ry
   | bl b=>exact qbw (d:=.bl b) rfl (by simpa [eqD]using hb) hx hy rx ry
   | int i=>exact qbw (d:=.int i) rfl (by simpa [eqD]using hb) hx hy rx ry
   | str z=>exact qbw (d:=.str z) rfl (by simpa [eqD]using hb) hx hy rx ry
   | lst xs =>
     cases e with
     | lst ys =>
       have hx0:=hx;have hy0:=hy;have hb0:=hb
       obtain ⟨a,vs,rfl,_,ha,hvs⟩:=hx
       obtain ⟨c,ws,rfl,_,hc,hws⟩:=hy
       cases (show v=Value.ref a from rx);cases (show u=Value.ref c from ry)
       by_cases hab:a=c
       · subst hab
         rw[Rep.uniq hx0 hy0 hb0]
         exact .same _
       obtain ⟨ia,ra,pa,_⟩:=I.list (SqL.of ha)
       obtain ⟨ib,rb,pb,_⟩:=I.list (SqL.of hc)
       have la:=ra.length;have lb:=rb.length
       have l1:=hvs.length;have l2:=hws.length
       rw[eqD]at hb
       by_cases hxy:xs.length=ys.length
       case neg =>
         have:=SeqAt.RcAt.lists_lengths (A:=A) (s:=s) pa.isList pb.isList (by simp;omega) (by omega)
         simp only [hxy,if_false]at hb
         cases hb
         exact .of_refs hab this
       simp only [hxy,if_true]at hb
       have:=SeqAt.RcAt.lists (A:=A) (e:=qe2 xs ys) pa.isList pb.isList (by simp;omega) (by omega) (fun j h1 h2=> ?_)
       · rw[show ia.toArray.size=xs.length by simp;omega,qde hb]at this
         exact .of_refs hab this
       · simp only [List.size_toArray]at h1 h2
         obtain ⟨x1,y1,v1,w1,e1,q0,q1,q2,s1,s2⟩:=qf0 hvs hws ra rb hb h1 h2
         have hdj:=qgm e1
         simp only [D.dep]at hd
         exact ih A.in1 _ _ _ _ _ _ _ (by omega) (by show A.units+1+n < cLine;omega) q0 q1 q2 s1 s2
     | _=>simp [eqD]at hb
   | tup xs =>
     cases e with
     | tup ys =>
       have hx0:=hx;have hy0:=hy;have hb0:=hb
       obtain ⟨a,vs,rfl,_,ha,hvs⟩:=hx
       obtain ⟨c,ws,rfl,_,hc,hws⟩:=hy
       cases (show v=Value.ref a from rx);cases (show u=Value.ref c from ry)
       by_cases hab:a=c
       · subst hab
         rw[Rep.uniq hx0 hy0 hb0]
         exact .same _
       obtain ⟨ia,ra,pa,_⟩:=I.tuple (SqT.of ha)
       obtain ⟨ib,rb,pb,_⟩:=I.tuple (SqT.of hc)
       have la:=ra.length;have lb:=rb.length
       have l1:=hvs.length;have l2:=hws.length
       rw[eqD]at hb
       by_cases hxy:xs.length=ys.length
       case neg=>simp [hxy]at hb
       simp only [hxy,if_true]at hb
       have:=SeqAt.RcAt.tuples (A:=A) (e:=qe2 xs ys) (show s.heap.IsTuple a ia.toArray from pa) (show s.heap.IsTuple c ib.toArray from pb) (by omega) (fun j h1 h2=> ?_)
       · rw[show ib.toArray.size=ia.toArray.size by simp;omega,Nat.min_self,show ia.toArray.size=xs.length by simp;omega,qde hb]at this
         simp only [beq_self_eq_true,Bool.and_true]at this
         exact .of_refs hab this
       · simp only [List.size_toArray]at h1 h2
         obtain ⟨x1,y1,v1,w1,e1,q0,q1,q2,s1,s2⟩:=qf0 hvs hws ra rb hb h1 h2
         have hdj:=qgm e1
         simp only [D.dep]at hd
         exact ih A.in1 _ _ _ _ _ _ _ (by omega) (by show A.units+1+n < cLine;omega) q0 q1 q2 s1 s2
     | _=>simp [eqD]at hb
   | _=>simp [eqD]at hb
end
noncomputable def look (d:D) (S:Sto):D:=match d with
 | .ref l=>match S[l]? with
   | some (.lst xs)=>.lst xs
   | some (.dct ks xs)=>.dct ks xs
   | some (.obj C fs xs)=>.obj C fs xs
   | _=>.ref l
 | d=>d
noncomputable abbrev PV (Q:VK):D→Sto→Wd→Hp→Prop:=fun d _ w' H'=>∀ v,Rep w' H' d v→Q v H'
section
variable {E:XW} {w:Wd} {H:Hp} {S:Sto} {d:D} {v:V} {Q:VK}
theorem qj {xs:List D} (h:qe w H S) (r:Rep w H d v) (e:look d S=.lst xs):∃ a vs,v=.ref a∧H a=some (.lst vs)∧qb w H xs vs:=by
 cases d with
 | lst ys=>cases e;obtain ⟨a,vs,e1,_,e2,e3⟩:=r;exact⟨a,vs,e1,e2,e3⟩
 | ref l =>
   unfold look at e
   dsimp only at e
   cases q:S[l]? with
   | none=>rw[q]at e;cases e
   | some c =>
     rw[q]at e
     obtain ⟨a,e1,e2⟩:=r
     have k:=h.cell l a c e1 q
     cases c with
     | lst ys=>cases e;obtain ⟨_,vs,k1,k2⟩:=k;exact⟨a,vs,e2,k1,k2⟩
     | _=>cases e
 | _=>cases e
theorem qai {xs:List D} (h:qe w H S) (r:Rep w H d v) (e:look d S=.tup xs):∃ a vs,v=.ref a∧H a=some (.tup vs)∧qb w H xs vs:=by
 cases d with
 | tup ys=>cases e;obtain ⟨a,vs,e1,_,e2,e3⟩:=r;exact⟨a,vs,e1,e2,e3⟩
 | ref l =>
   unfold look at e
   dsimp only at e
   cases q:S[l]? with
   | none=>rw[q]at e;cases e
   | some c=>rw[q]at e;cases c <;> cases e
 | _=>cases e
theorem qdf {ks:List Key} {xs:List D} (h:qe w H S) (r:Rep w H d v) (e:look d S=.dct ks xs):∃ a vs,v=.ref a∧Rd H a (.dK (ks.zip vs))∧ks.length=xs.length∧qb w H xs vs:=by
 cases d with
 | dct js ys=>cases e;obtain ⟨a,vs,e1,_,e2,e3⟩:=r;exact⟨a,vs,e1,e2,e3⟩
 | ref l =>
   unfold look at e
   dsimp only at e
   cases q:S[l]? with
   | none=>rw[q]at e;cases e
   | some c =>
     rw[q]at e
     obtain ⟨a,e1,e2⟩:=r
     have k:=h.cell l a c e1 q
     cases c with
     | dct js ys=>cases e;obtain ⟨_,vs,k1,k2⟩:=k;exact⟨a,vs,e2,.inl k1,k2⟩
     | _=>cases e
 | _=>cases e
theorem qbx {z:V} (r:Rep w H d v) (e:(look d S).flat=some z):v=z∧qox v=true:=by
 cases d with
 | ref l =>
   unfold look at e
   dsimp only at e
   cases q:S[l]? with
   | none=>rw[q]at e;cases e
   | some c=>rw[q]at e;cases c <;> cases e
 | _=>exact qls r e
theorem qr {i:Int} (r:Rep w H d v) (e:look d S=.int i):v=.int i:=(qbx (S:=S) r (by rw[e];rfl)).1
theorem qb0 {i:Str} (r:Rep w H d v) (e:look d S=.str i):v=.str i:=(qbx (S:=S) r (by rw[e];rfl)).1
theorem qwd {i:Bool} (r:Rep w H d v) (e:look d S=.bl i):v=.bl i:=(qbx (S:=S) r (by rw[e];rfl)).1
theorem qhn (r:Rep w H d v) (e:look d S=.non):v=.non:=(qbx (S:=S) r (by rw[e];rfl)).1
end
noncomputable def D.cell:D→Cell
 | .lst xs=>.lst xs
 | .dct ks xs=>.dct ks xs
 | .obj C fs xs=>.obj C fs xs
 | _=>.gone
noncomputable def alloc (new:Bool) (d:D):M D:=fun S=>if new then .ok (.ref S.length) (S++[d.cell])else .ok d S
section
variable {E:XW} {w:Wd} {H:Hp} {S:Sto} {Q:VK} {new:Bool} {p:Addr}
theorem qe.noZ (h:qe w H S) (hp:H p=none):¬ w.Z p:=fun z=>h.zin p z hp
theorem qay {xs:List D} {vs:List V} (h:qe w H S) (r:qb w H xs vs) (q:Wp E w H (alloc new (.lst xs) S) (PV Q)) (hp:H p=none):Q (.ref p) (upd H p (.lst vs)):=by
 cases new with
 | false=>exact q _ _ (qdc h hp) (qfe h hp) _ ⟨p,vs,rfl,.inl rfl,qi,r.mono (qdc h hp)⟩
 | true=>exact q _ _ (qhm h hp) (qo4 h hp ⟨h.noZ hp,vs,qi,r.mono (qhm h hp)⟩) _ ⟨p,by simp [Wd.more,← h.len],rfl⟩
theorem qo5 {ks:List Key} {xs:List D} {vs:List V} (h:qe w H S) (hl:ks.length=xs.length) (r:qb w H xs vs) (q:Wp E w H (alloc new (.dct ks xs) S) (PV Q)) (hp:H p=none):Q (.ref p) (upd H p (.dK (ks.zip vs))):=by
 cases new with
 | false=>exact q _ _ (qdc h hp) (qfe h hp) _ ⟨p,vs,rfl,.inl rfl,.inl qi,hl,r.mono (qdc h hp)⟩
 | true=>exact q _ _ (qhm h hp) (qo4 h hp ⟨h.noZ hp,vs,qi,hl,r.mono (qhm h hp)⟩) _ ⟨p,by simp [Wd.more,← h.len],rfl⟩
theorem qk7 {xs:List D} {vs:List V} (h:qe w H S) (r:qb w H xs vs) (q:Wp E w H (M.pure (.tup xs) S) (PV Q)) (hp:H p=none):Q (.ref p) (upd H p (.tup vs)) :=
 q _ _ (qdc h hp) (qfe h hp) _ ⟨p,vs,rfl,.inl rfl,qi,r.mono (qdc h hp)⟩
theorem now {d:D} {v:V} (h:qe w H S) (r:Rep w H d v) (q:Wp E w H (M.pure d S) (PV Q)):Q v H:=q _ _ (Le.refl _ _) h v r
end
noncomputable def OpT (X:Cx) (F:Value→Value→Sem Value) (h:D→D→M D):Prop:=∃ r:R2,OpR X F r∧∀ (E:XW) w H S dx dy x y Q,qe w H S→Rep w H dx x→Rep w H dy y→Wp E w H (h dx dy S) (PV Q)→r x y H Q
noncomputable def sizeOk (n:Nat):Bool:=decide (n≤sizeLine)
noncomputable instance (i j:Int):Decidable (qxh i j):=by unfold qxh;infer_instance
noncomputable instance (i j:Int):Decidable (qwb i j):=by unfold qwb;infer_instance
noncomputable def qe3 (i j:Int):Bool:=decide (qxh i j) || decide (qwb i j)
noncomputable instance (i j:Int):Decidable (qgg i j):=by unfold qgg;infer_instance
noncomputable instance (i j:Int):Decidable (qr2 i j):=by unfold qr2;infer_instance
noncomputable def qxy (new:Bool):D→D→M D
 | .int i,.int j=>M.pure (.int (i+j))
 | .str a,.str b=>if sizeOk (a.length+b.length)then M.pure (.str (a++b))else M.fail
 | .lst xs,.lst ys=>if sizeOk (xs.length+ys.length)then alloc new (.lst (xs++ys))else M.fail
 | .tup xs,.tup ys=>if !xs.isEmpty && sizeOk (xs.length+ys.length)then M.pure (.tup (xs++ys))else M.fail
 | _,_=>M.fail
noncomputable def qxz:D→D→M D
 | .int i,.int j=>M.pure (.int (i - j))
 | _,_=>M.fail
noncomputable def qx0 (new:Bool):D→D→M D
 | .int i,.int j=>if qe3 i j then M.pure (.int (i * j))else M.fail
 | .lst xs,.int k=>if decide (k < 2 ^ 63) && decide (-(2 ^ 63)≤k) && sizeOk (xs.length * k.toNat)then alloc new (.lst (List.replicate k.toNat xs).flatten)else M.fail
 | _,_=>M.fail
noncomputable def qzy:D→D→M D
 | .int i,.int j=>if decide (qgg i j)then M.pure (.int (i / j))else M.fail
 | _,_=>M.fail
noncomputable def qzz:D→D→M D
 | .int i,.int j=>if decide (0 < j)then M.pure (.int (i % j))else M.fail
 | _,_=>M.fail
noncomputable def qz0:D→D→M D
 | .int i,.int j=>if decide (qr2 i j)then M.pure (.int (i ^ j.toNat))else M.fail
 | _,_=>M.fail
noncomputable def seen (f:D→D→M D) (x y:D):M D:=fun S=>f (look x S) (look y S) S
noncomputable def qgn (new:Bool) (op:Operator):D→D→M D:=match op with
 | .Add=>seen (qxy new)
 | .Sub=>seen qxz
 | .Mult=>seen (qx0 new)
 | .FloorDiv=>seen qzy
 | .Mod=>seen qzz
 | .Pow=>seen qz0
 | _=>fun _ _=>M.fail
section
variable {X:Cx}
theorem Wp.iteF {α:Type} {E:XW} {w:Wd} {H:Hp} {c:Bool} {m:M α} {S:Sto} {P:α→Sto→Wd→Hp→Prop} (h:Wp E w H ((if c=true then m else M.fail) S) P):c=true∧Wp E w H (m S) P:=by
 cases c with
 | true=>exact⟨rfl,h⟩
 | false=>exact False.elim h
theorem qb.rep {w:Wd} {H:Hp} {ds:List D} {vs:List V} (h:qb w H ds vs):∀ k:Nat,qb w H (List.replicate k ds).flatten (List.replicate k vs).flatten
 | 0=>rfl
 | k+1=>by rw[List.replicate_succ,List.replicate_succ,List.flatten_cons,List.flatten_cons];exact h.append (qb.rep h k)
theorem q66 {new:Bool}:OpT X (binaryOp .Add) (seen (qxy new)):=by
 refine⟨_,q59.or (quw.or (q6r.or q2s)),fun E w H S dx dy x y Q h rx ry q=> ?_⟩
 unfold seen at q
 cases e1:look dx S <;> rw[e1]at q <;> first | exact False.elim q | (cases e2:look dy S <;> rw[e2]at q <;> first | exact False.elim q | skip)
 case int.int i j =>
   exact .inl ⟨i,j,qr rx e1,qr ry e2,now h (d:=.int _) rfl q⟩
 case str.str i j =>
   obtain ⟨hz,q⟩:=Wp.iteF q
   exact .inr (.inl ⟨i,j,qb0 rx e1,qb0 ry e2,of_decide_eq_true hz,now h (d:=.str _) rfl q⟩)
 case lst.lst xs ys =>
   obtain ⟨hz,q⟩:=Wp.iteF q
   obtain ⟨a,vs,z1,z2,z3⟩:=qj h rx e1
   obtain ⟨b,us,y1,y2,y3⟩:=qj h ry e2
   refine .inr (.inr (.inl ⟨a,b,vs,us,z1,y1,z2,y2,?_,fun p hp=>qay h (z3.append y3) q hp⟩))
   rw[← z3.length,← y3.length];exact of_decide_eq_true hz
 case tup.tup xs ys =>
   obtain ⟨hz,q⟩:=Wp.iteF q
   rw[Bool.and_eq_true]at hz
   obtain ⟨a,vs,z1,z2,z3⟩:=qai h rx e1
   obtain ⟨b,us,y1,y2,y3⟩:=qai h ry e2
   refine .inr (.inr (.inr ⟨a,b,vs,us,z1,y1,SqT.of z2,SqT.of y2,?_,?_,fun e=> ?_,fun _ p hp=>qk7 h (z3.append y3) q hp⟩))
   · have:=z3.length
     intro e
     rw[e]at this
     have:xs=[]:=List.length_eq_zero_iff.mp this
     rw[this]at hz
     simp at hz
   · rw[← z3.length,← y3.length];exact of_decide_eq_true hz.2
   · have hl:=y3.length
     rw[e]at hl
     have hy:ys=[]:=List.length_eq_zero_iff.mp hl
     rw[hy,List.append_nil]at q
     have:look dx S=dx:=by cases dx <;> first | rfl | (unfold look at e1;dsimp only at e1;split at e1 <;> cases e1)
     rw[this]at e1
     rw[← z1]
     exact now h (by rw[← e1];exact rx) q
theorem q67:OpT X (binaryOp .Sub) (seen qxz):=by
 refine⟨_,q6a,fun E w H S dx dy x y Q h rx ry q=> ?_⟩
 unfold seen at q
 cases e1:look dx S <;> rw[e1]at q <;> first | exact False.elim q | (cases e2:look dy S <;> rw[e2]at q <;> first | exact False.elim q | skip)
 exact⟨_,_,qr rx e1,qr ry e2,now h (d:=.int _) rfl q⟩
theorem q68 {new:Bool}:OpT X (binaryOp .Mult) (seen (qx0 new)):=by
 refine⟨_,q6b.or (q27.or q6s),fun E w H S dx dy x y Q h rx ry q=> ?_⟩
 unfold seen at q
 cases e1:look dx S <;> rw[e1]at q <;> first | exact False.elim q | (cases e2:look dy S <;> rw[e2]at q <;> first | exact False.elim q | skip)
 case int.int i j =>
   obtain ⟨hz,q⟩:=Wp.iteF q
   unfold qe3 at hz
   rw[Bool.or_eq_true]at hz
   rcases hz with hz | hz
   · exact .inl ⟨i,j,qr rx e1,qr ry e2,of_decide_eq_true hz,now h (d:=.int _) rfl q⟩
   · exact .inr (.inl ⟨i,j,qr rx e1,qr ry e2,of_decide_eq_true hz,now h (d:=.int _) rfl q⟩)
 case lst.int xs k =>
   obtain ⟨hz,q⟩:=Wp.iteF q
   rw[Bool.and_eq_true,Bool.and_eq_true]at hz
   obtain ⟨a,vs,z1,z2,z3⟩:=qj h rx e1
   refine .inr (.inr ⟨a,k,vs,z1,qr ry e2,z2,of_decide_eq_true hz.1.2,of_decide_eq_true hz.1.1,?_,fun p hp=>qay h (z3.rep _) q hp⟩)
   rw[← z3.length];exact of_decide_eq_true hz.2
theorem q69:OpT X (binaryOp .FloorDiv) (seen qzy):=by
 refine⟨_,qzm,fun E w H S dx dy x y Q h rx ry q=> ?_⟩
 unfold seen at q
 cases e1:look dx S <;> rw[e1]at q <;> first | exact False.elim q | (cases e2:look dy S <;> rw[e2]at q <;> first | exact False.elim q | skip)
 obtain ⟨hz,q⟩:=Wp.iteF q
 exact⟨_,_,qr rx e1,qr ry e2,of_decide_eq_true hz,now h (d:=.int _) rfl q⟩
theorem q7a:OpT X (binaryOp .Mod) (seen qzz):=by
 refine⟨_,q6c,fun E w H S dx dy x y Q h rx ry q=> ?_⟩
 unfold seen at q
 cases e1:look dx S <;> rw[e1]at q <;> first | exact False.elim q | (cases e2:look dy S <;> rw[e2]at q <;> first | exact False.elim q | skip)
 obtain ⟨hz,q⟩:=Wp.iteF q
 exact⟨_,_,qr rx e1,qr ry e2,of_decide_eq_true hz,now h (d:=.int _) rfl q⟩
theorem q7b:OpT X (binaryOp .Pow) (seen qz0):=by
 refine⟨_,q6d,fun E w H S dx dy x y Q h rx ry q=> ?_⟩
 unfold seen at q
 cases e1:look dx S <;> rw[e1]at q <;> first | exact False.elim q | (cases e2:look dy S <;> rw[e2]at q <;> first | exact False.elim q | skip)
 obtain ⟨hz,q⟩:=Wp.iteF q
 exact⟨_,_,qr rx e1,qr ry e2,of_decide_eq_true hz,now h (d:=.int _) rfl q⟩
theorem qlu {F:Value→Value→Sem Value}:OpT X F (fun _ _=>M.fail):=⟨fun _ _ _ _=>False,fun _ _ _ _ _ _ _ _ _ _ _ _ h=>False.elim h,fun _ _ _ _ _ _ _ _ _ _ _ _ q=>q⟩
theorem q7c {new:Bool}:∀ op:Operator,OpT X (binaryOp op) (qgn new op)
 | .Add=>q66
 | .Sub=>q67
 | .Mult=>q68
 | .FloorDiv=>q69
 | .Mod=>q7a
 | .Pow=>q7b
 | .MatMult=>qlu
 | .Div=>qlu
 | .LShift=>qlu
 | .RShift=>qlu
 | .BitOr=>qlu
 | .BitXor=>qlu
 | .BitAnd=>qlu
end
noncomputable def qsf (p:Int→Int→Bool):D→D→M D
 | .int i,.int j=>M.pure (.bl (p i j))
 | _,_=>M.fail
noncomputable def eqM (neg:Bool) (x y:D):M D:=match eqD x y with
 | some b=>if decide (x.dep≤60) && (match x.flat,y.flat with | some a,some c=>qp0 a c | _,_=>true)then M.pure (.bl (neg != b))else M.fail
 | none=>M.fail
noncomputable def D.isNon:D→Bool
 | .non=>true
 | _=>false
noncomputable def isM (neg:Bool) (x y:D):M D:=match y with
 | .non=>M.pure (.bl (neg != x.isNon))
 | _=>M.fail
noncomputable def qdg (d:D):List D→Option Bool
 | []=>some false
 | e::es=>match eqD e d,qdg d es with
   | some a,some b=>if decide (e.dep≤60)then some (a || b)else none
   | _,_=>none
noncomputable def keyOf:D→Option Key
 | .int i=>some (.inl i)
 | .str x=>some (.inr x)
 | _=>none
noncomputable def qe6 (ks:List Key) (k:Key):Bool:=ks.any fun j=>decide (j=k)
noncomputable def inM (neg:Bool) (x y:D):M D:=match y with
 | .lst es=>match qdg x es with
   | some b=>M.pure (.bl (neg != b))
   | none=>M.fail
 | .tup es=>match qdg x es with
   | some b=>M.pure (.bl (neg != b))
   | none=>M.fail
 | .dct ks _=>match keyOf x with
   | some k=>M.pure (.bl (neg != qe6 ks k))
   | none=>M.fail
 | .str j=>match x with
   | .str i=>M.pure (.bl (neg != !(Builtin.Str.occurrences j i 0 j.length 1).isEmpty))
   | _=>M.fail
 | _=>M.fail
noncomputable def qa8 (op:CmpOp):D→D→M D:=match op with
 | .Lt=>seen (qsf fun i j=>decide (i < j))
 | .LtE=>seen (qsf fun i j=>decide (i≤j))
 | .Gt=>seen (qsf fun i j=>decide (j < i))
 | .GtE=>seen (qsf fun i j=>decide (j≤i))
 | .Eq=>seen (eqM false)
 | .NotEq=>seen (eqM true)
 | .Is=>seen (isM false)
 | .IsNot=>seen (isM true)
 | .In=>fun x y S=>inM false x (look y S) S
 | .NotIn=>fun x y S=>inM true x (look y S) S
theorem qk8 {d:D}:∀ {es:List D} {b:Bool} {i:Nat} {e:D},qdg d es=some b→es[i]? =some e→∃ c,eqD e d=some c∧e.dep≤60
 | [],_,_,_,_,h=>by simp at h
 | a ::es,b,i,e,h,h1=>by
   rw[qdg]at h
   cases e1:eqD a d with
   | none=>rw[e1]at h;simp at h
   | some p =>
     cases e2:qdg d es with
     | none=>rw[e1,e2]at h;simp at h
     | some q =>
       rw[e1,e2]at h
       dsimp only at h
       by_cases hd:a.dep≤60
       · cases i with
         | zero =>
           have:a=e:=by simpa using h1
           subst this
           exact⟨p,e1,hd⟩
         | succ i=>exact qk8 e2 (by simpa using h1)
       · simp [hd]at h
theorem qsg {d:D}:∀ {es:List D} {b:Bool},qdg d es=some b→es.any (fun e=>(eqD e d).getD false)=b
 | [],b,h=>by simp [qdg]at h;simp [h]
 | a ::es,b,h=>by
   rw[qdg]at h
   cases e1:eqD a d with
   | none=>rw[e1]at h;simp at h
   | some p =>
     cases e2:qdg d es with
     | none=>rw[e1,e2]at h;simp at h
     | some q =>
       rw[e1,e2]at h
       dsimp only at h
       by_cases hd:a.dep≤60
       · simp only [hd,decide_true,if_true]at h
         have h:(p || q)=b:=by simpa using h
         rw[List.any_cons,e1,qsg e2,← h]
         rfl
       · simp [hd]at h
noncomputable def inE (its:List Value) (ds:List D) (d:D) (u:Value):Bool:= @decide (∃ (i:Nat) (e:D),its[i]? =some u∧ds[i]? =some e∧eqD e d=some true) (Classical.propDecidable _)
section
variable {X:Cx} {pins:List (Addr × Obj)} {σ:St} {H:Hp} {s:Shared}
mutual
theorem Rep.cong {w:Wd}:∀ {d e z:D} {v:V} {b c:Bool},Rep w H d v→Rep w H e v→eqD d z=some b→eqD e z=some c→b=c
 | .non,e,z,v,b,c,h,k,q1,q2=>by
   simp only [Rep]at h;subst h
   cases e with
   | non=>rw[q1]at q2;simpa using q2
   | _=>first | (simp [Rep]at k;done) | (simp [eqD]at q2;done)
 | .bl x,e,z,v,b,c,h,k,q1,q2=>by
   simp only [Rep]at h;subst h
   cases e with
   | bl y=>simp only [Rep]at k;cases k;rw[q1]at q2;simpa using q2
   | _=>first | (simp [Rep]at k;done) | (simp [eqD]at q2;done)
 | .int x,e,z,v,b,c,h,k,q1,q2=>by
   simp only [Rep]at h;subst h
   cases e with
   | int y=>simp only [Rep]at k;cases k;rw[q1]at q2;simpa using q2
   | _=>first | (simp [Rep]at k;done) | (simp [eqD]at q2;done)
 | .str x,e,z,v,b,c,h,k,q1,q2=>by
   simp only [Rep]at h;subst h
   cases e with
   | str y=>simp only [Rep]at k;cases k;rw[q1]at q2;simpa using q2
   | _=>first | (simp [Rep]at k;done) | (simp [eqD]at q2;done)
 | .lst xs,e,z,v,b,c,⟨a,vs,e1,_,h1,r⟩,k,q1,q2=>by
   subst e1
   cases e with
   | lst ys =>
     obtain ⟨a',vs',e2,_,h2,r'⟩:=k
     cases e2
     rw[h1]at h2;cases h2
     cases z with
     | lst zs =>
       rw[eqD]at q1 q2
       have l:xs.length=ys.length:=by rw[r.length,r'.length]
       by_cases hz:xs.length=zs.length
       · simp only [hz,← l,if_true]at q1 q2
         exact qb.cong r r' q1 q2
       · simp only [hz,← l,if_false]at q1 q2
         rw[q1]at q2;simpa using q2
     | _=>simp [eqD]at q1
   | tup ys=>obtain ⟨a',vs',e2,_,h2,r'⟩:=k;cases e2;rw[h1]at h2;cases h2
   | non=>simp [Rep]at k
   | bl _=>simp [Rep]at k
   | int _=>simp [Rep]at k
   | str _=>simp [Rep]at k
   | _=>simp [eqD]at q2
 | .tup xs,e,z,v,b,c,⟨a,vs,e1,_,h1,r⟩,k,q1,q2=>by
   subst e1
   cases e with
   | tup ys =>
     obtain ⟨a',vs',e2,_,h2,r'⟩:=k
     cases e2
     rw[h1]at h2;cases h2
     cases z with
     | tup zs =>
       rw[eqD]at q1 q2
       have l:xs.length=ys.length:=by rw[r.length,r'.length]
       by_cases hz:xs.length=zs.length
       · simp only [hz,← l,if_true]at q1 q2
         exact qb.cong r r' q1 q2
       · simp only [hz,if_false]at q1;cases q1
     | _=>simp [eqD]at q1
   | lst ys=>obtain ⟨a',vs',e2,_,h2,r'⟩:=k;cases e2;rw[h1]at h2;cases h2
   | non=>simp [Rep]at k
   | bl _=>simp [Rep]at k
   | int _=>simp [Rep]at k
   | str _=>simp [Rep]at k
   | _=>simp [eqD]at q2
 | .ty _,_,_,_,_,_,_,_,h,_=>by simp [eqD]at h
 | .at_ _,_,_,_,_,_,_,_,h,_=>by simp [eqD]at h
 | .ref _,_,_,_,_,_,_,_,h,_=>by simp [eqD]at h
 | .dct _ _,_,_,_,_,_,_,_,h,_=>by simp [eqD]at h
 | .obj _ _ _,_,_,_,_,_,_,_,h,_=>by simp [eqD]at h
theorem qb.cong {w:Wd}:∀ {ds es zs:List D} {vs:List V} {b c:Bool},qb w H ds vs→qb w H es vs→qbd ds zs=some b→qbd es zs=some c→b=c
 | [],es,zs,vs,b,c,h,k,q1,q2=>by
   cases (show vs=[] from h)
   cases es with
   | nil=>rw[q1]at q2;simpa using q2
   | cons e es=>obtain ⟨_,_,z,_⟩:=k;cases z
 | d::ds,[],zs,vs,b,c,⟨v,r,e1,hd,t⟩,k,q1,q2=>by
   cases (show vs=[] from k)
   cases e1
 | d::ds,e::es,[],vs,b,c,_,_,q1,q2=>by simp [qbd]at q1
 | d ::ds,e::es,z::zs,vs,b,c,⟨v,r,e1,hd,t⟩,⟨v',r',e2,hd',t'⟩,q1,q2=>by
   rw[e1]at e2;cases e2
   rw[qbd]at q1 q2
   cases a1:eqD d z with
   | none=>rw[a1]at q1;simp at q1
   | some p =>
     cases a2:qbd ds zs with
     | none=>rw[a1,a2]at q1;simp at q1
     | some p' =>
       cases b1:eqD e z with
       | none=>rw[b1]at q2;simp at q2
       | some q =>
         cases b2:qbd es zs with
         | none=>rw[b1,b2]at q2;simp at q2
         | some q' =>
           rw[a1,a2]at q1
           rw[b1,b2]at q2
           rw[Rep.cong hd hd' a1 b1,qb.cong t t' a2 b2]at q1
           rw[q1]at q2
           simpa using q2
end
theorem qu3 {w:Wd} {its:List Value} {vs:List V} {ds:List D} {d:D} (hvs:qb w H ds vs) (r:Vals vs its) {i:Nat} {u:Value} {e:D} {c:Bool} (hk:∀ (j:Nat) (f:D),ds[j]? =some f→∃ c,eqD f d=some c) (hu:its[i]? =some u) (he:ds[i]? =some e) (hc:eqD e d=some c):inE its ds d u=c:=by
 unfold inE
 cases c with
 | true=>exact @decide_eq_true _ (Classical.propDecidable _) ⟨i,e,hu,he,hc⟩
 | false =>
   refine @decide_eq_false _ (Classical.propDecidable _) ?_
   rintro ⟨j,e',hu',he',h'⟩
   obtain ⟨v1,f1,q1⟩:=hvs.get he
   obtain ⟨v2,f2,q2⟩:=hvs.get he'
   obtain ⟨u1,g1,r1⟩:=r.get f1
   obtain ⟨u2,g2,r2⟩:=r.get f2
   rw[hu]at g1;cases g1
   rw[hu']at g2;cases g2
   cases r1.inj r2
   have:=Rep.cong q1 q2 hc h'
   cases this
theorem qk9 {w:Wd} {its:List Value} {vs:List V} {ds:List D} {d:D} {b:Bool} (hvs:qb w H ds vs) (r:Vals vs its) (hb:qdg d ds=some b):its.any (inE its ds d)=b:=by
 have l1:=hvs.length
 have l2:=r.length
 have hk:∀ (j:Nat) (f:D),ds[j]? =some f→∃ c,eqD f d=some c:=fun j f e=>let ⟨c,h,_⟩:=qk8 hb e;⟨c,h⟩
 rw[← qsg hb,Bool.eq_iff_iff,List.any_eq_true,List.any_eq_true]
 constructor
 · rintro ⟨u,hu,h⟩
   obtain ⟨i,hi,rfl⟩:=List.getElem_of_mem hu
   have hi2:i < ds.length:=by omega
   obtain ⟨c,hc⟩:=hk i ds[i] (List.getElem?_eq_getElem hi2)
   rw[qu3 hvs r hk (List.getElem?_eq_getElem hi) (List.getElem?_eq_getElem hi2) hc]at h
   exact⟨ds[i],List.getElem_mem hi2,by rw[hc];exact h⟩
 · rintro ⟨e,he,h⟩
   obtain ⟨i,hi,rfl⟩:=List.getElem_of_mem he
   have hi2:i < its.length:=by omega
   obtain ⟨c,hc⟩:=hk i ds[i] (List.getElem?_eq_getElem hi)
   rw[hc]at h
   exact⟨its[i],List.getElem_mem hi2,by rw[qu3 hvs r hk (List.getElem?_eq_getElem hi2) (List.getElem?_eq_getElem hi) hc];exact h⟩
theorem qho {w:Wd} {A:Around} (I:Inv X pins σ H s) {its:List Value} {vs:List V} {ds:List D} {d:D} {x:V} {v:Value} {b:Bool} (hu:A.units+60 < cLine) (hvs:qb w H ds vs) (r:Vals vs its) (hx:Rep w H d x) (rx:RelV x v) (hb:qdg d ds=some b) :
   ∀ y,y ∈ its→SeqAt.EqAt A s y v (inE its ds d y):=fun y hy=>by
 have l1:=hvs.length
 have l2:=r.length
 obtain ⟨i,hi,rfl⟩:=List.getElem_of_mem hy
 have hi2:i < ds.length:=by omega
 obtain ⟨c,hc,hdp⟩:=qk8 hb (List.getElem?_eq_getElem hi2)
 rw[qu3 hvs r (fun j f e=>let ⟨c,h,_⟩:=qk8 hb e;⟨c,h⟩) (List.getElem?_eq_getElem hi) (List.getElem?_eq_getElem hi2) hc]
 obtain ⟨v1,f1,q1⟩:=hvs.get (List.getElem?_eq_getElem hi2)
 obtain ⟨u1,g1,r1⟩:=r.get f1
 obtain ⟨_,e1⟩:=List.getElem?_eq_some_iff.mp g1
 rw[e1]
 exact qlt I 60 A _ _ _ _ _ _ _ hdp hu hc q1 hx r1 rx
theorem Rep.isNon {w:Wd} {d:D} {v:V} (h:Rep w H d v):decide (v=.non)=d.isNon:=by
 cases d <;> simp only [Rep]at h <;> first
   | (subst h;rfl)
   | (obtain ⟨_,_,h⟩:=h;subst h;rfl)
   | (obtain ⟨_,_,h,_⟩:=h;subst h;rfl)
   | (obtain ⟨_,_,_,h,_⟩:=h;subst h;rfl)
theorem qlv {d:D} {S:Sto}:(look d S).isNon=d.isNon:=by
 cases d <;> first | rfl | skip
 case ref l =>
   unfold look
   dsimp only
   cases S[l]? with
   | none=>rfl
   | some c=>cases c <;> rfl
theorem qla {op:CmpOp} {p:Int→Int→Bool} (ho:OpR X (compareOp op) (rI0 fun i j=>.bl (p i j))):OpT X (compareOp op) (seen (qsf p)):=by
 refine⟨_,ho,fun E w H S dx dy x y Q h rx ry q=> ?_⟩
 unfold seen at q
 cases e1:look dx S <;> cases e2:look dy S <;> rw[e1,e2]at q <;> first | exact False.elim q | skip
 exact⟨_,_,qr rx e1,qr ry e2,now h (d:=.bl _) rfl q⟩
theorem qaaw:OpT X (compareOp .Is) (seen (isM false)):=by
 refine⟨_,q6f,fun E w H S dx dy x y Q h rx ry q=> ?_⟩
 unfold seen at q
 cases e2:look dy S <;> rw[e2]at q <;> first | exact False.elim q | skip
 refine⟨qhn ry e2,?_⟩
 have:=now h (d:=.bl _) rfl q
 rw[qlv]at this
 rw[rx.isNon]
 simpa using this
theorem qz1:OpT X (compareOp .IsNot) (seen (isM true)):=by
 refine⟨_,q2m,fun E w H S dx dy x y Q h rx ry q=> ?_⟩
 unfold seen at q
 cases e2:look dy S <;> rw[e2]at q <;> first | exact False.elim q | skip
 refine⟨qhn ry e2,?_⟩
 have:=now h (d:=.bl _) rfl q
 rw[qlv]at this
 rw[rx.isNon]
 simpa using this
theorem qwe {x y:V} (h:qp0 x y=true) (f:qox x=true) (g:qox y=true):decide (x=y)=eqV x y:=by
 cases x <;> cases y <;> first | (cases h;done) | (cases f;done) | (cases g;done) | rfl | exact qp1 | (show decide _=(_==_);simp [Bool.beq_eq_decide_eq])
theorem qsh {d e:D} {z:V} (hz:d.flat=some z):eqD d e=e.flat.map (eqV z):=by
 cases d <;> simp only [D.flat]at hz <;> first | (cases hz;done) | (cases hz;rw[eqD])
theorem qo6 {d e:D} {b:Bool} (hz:d.flat=none) (hb:eqD d e=some b):(∃ xs ys,d=.lst xs∧e=.lst ys)∨(∃ xs ys,d=.tup xs∧e=.tup ys):=by
 cases d <;> simp only [D.flat]at hz <;> first | (cases hz;done) | skip
 case lst xs=>cases e <;> first | exact .inl ⟨_,_,rfl,rfl⟩ | (simp [eqD]at hb;done)
 case tup xs=>cases e <;> first | exact .inr ⟨_,_,rfl,rfl⟩ | (simp [eqD]at hb;done)
 all_goals simp [eqD]at hb
noncomputable def q7d (neg:Bool):R2:=fun x y H Q=>∃ (w:Wd) (S:Sto) (dx dy:D) (b:Bool),qe w H S∧Rep w H dx x∧Rep w H dy y∧eqD (look dx S) (look dy S)=some b∧(look dx S).dep≤60∧(match (look dx S).flat,(look dy S).flat with | some a,some c=>qp0 a c | _,_=>true)=true∧Q (.bl (neg != b)) H
theorem q7e (hu:X.A.units+64 < cLine):OpR X (compareOp .Eq) (q7d false):=by
 intro pins s σ H x y v u Q I rx ry h
 obtain ⟨w,S,dx,dy,b,h,r1,r2,hb,hd,hs,q⟩:=h
 cases hz:(look dx S).flat with
 | some z =>
   rw[qsh hz]at hb
   cases he:(look dy S).flat with
   | none=>rw[he]at hb;simp at hb
   | some z' =>
     rw[he]at hb
     rw[hz,he]at hs
     obtain ⟨rfl,f1⟩:=qbx r1 hz
     obtain ⟨rfl,f2⟩:=qbx r2 he
     have hb:eqV x y=b:=by simpa using hb
     refine q95 pins s σ H x y v u Q I rx ry ⟨hs,?_⟩
     rw[qwe hs f1 f2,hb]
     simpa using q
 | none =>
   rcases qo6 hz hb with ⟨xs,ys,z1,z2⟩ | ⟨xs,ys,z1,z2⟩
   · obtain ⟨a,vs,rfl,ha,hvs⟩:=qj h r1 z1
     obtain ⟨c,ws,rfl,hc,hws⟩:=qj h r2 z2
     rw[z1,z2,eqD]at hb
     cases (show v=Value.ref a from rx);cases (show u=Value.ref c from ry)
     obtain ⟨ia,ra,pa,_⟩:=I.list (SqL.of ha)
     obtain ⟨ib,rb,pb,_⟩:=I.list (SqL.of hc)
     have la:=ra.length;have lb:=rb.length
     have l1:=hvs.length;have l2:=hws.length
     by_cases hxy:xs.length=ys.length
     case neg =>
       simp only [hxy,if_false]at hb
       cases hb
       exact SeqAt.eq_list_lengthsAt pa.isList pb.isList (by simp;omega) (by omega) ⟨.bl _,H,I,rfl,by simpa using q⟩
     simp only [hxy,if_true]at hb
     rw[z1]at hd
     simp only [D.dep]at hd
     refine SeqAt.eq_listAt (e:=qe2 xs ys) pa.isList pb.isList (by simp;omega) (by omega) (fun j h1 h2=> ?_) ?_
     · simp only [List.size_toArray]at h1 h2
       obtain ⟨x1,y1,v1,w1,e1,q0,q1,q2,s1,s2⟩:=qf0 hvs hws ra rb hb h1 h2
       have hdj:=qgm e1
       exact qlt I 60 X.A.in1 _ _ _ _ _ _ _ (by omega) (by show X.A.units+1+60 < cLine;omega) q0 q1 q2 s1 s2
     · rw[show ia.toArray.size=xs.length by simp;omega,qde hb]
       exact⟨.bl _,H,I,rfl,by simpa using q⟩
   · obtain ⟨a,vs,rfl,ha,hvs⟩:=qai h r1 z1
     obtain ⟨c,ws,rfl,hc,hws⟩:=qai h r2 z2
     rw[z1,z2,eqD]at hb
     cases (show v=Value.ref a from rx);cases (show u=Value.ref c from ry)
     obtain ⟨ia,ra,pa,_⟩:=I.tuple (SqT.of ha)
     obtain ⟨ib,rb,pb,_⟩:=I.tuple (SqT.of hc)
     have la:=ra.length;have lb:=rb.length
     have l1:=hvs.length;have l2:=hws.length
     by_cases hxy:xs.length=ys.length
     case neg=>simp [hxy]at hb
     simp only [hxy,if_true]at hb
     rw[z1]at hd
     simp only [D.dep]at hd
     refine SeqAt.eq_tupleAt (e:=qe2 xs ys) (show s.heap.IsTuple a ia.toArray from pa) (show s.heap.IsTuple c ib.toArray from pb) (by omega) (fun j h1 h2=> ?_) ?_
     · simp only [List.size_toArray]at h1 h2
       obtain ⟨x1,y1,v1,w1,e1,q0,q1,q2,s1,s2⟩:=qf0 hvs hws ra rb hb h1 h2
       have hdj:=qgm e1
       exact qlt I 60 X.A.in1 _ _ _ _ _ _ _ (by omega) (by show X.A.units+1+60 < cLine;omega) q0 q1 q2 s1 s2
     · rw[show ib.toArray.size=ia.toArray.size by simp;omega,Nat.min_self,show ia.toArray.size=xs.length by simp;omega,qde hb]
       simp only [beq_self_eq_true,Bool.and_true]
       exact⟨.bl _,H,I,rfl,by simpa using q⟩
theorem q7f (hu:X.A.units+64 < cLine):OpR X (compareOp .NotEq) (q7d true):=by
 intro pins s σ H x y v u Q I rx ry h
 obtain ⟨w,S,dx,dy,b,h,r1,r2,hb,hd,hs,q⟩:=h
 cases hz:(look dx S).flat with
 | some z =>
   rw[qsh hz]at hb
   cases he:(look dy S).flat with
   | none=>rw[he]at hb;simp at hb
   | some z' =>
     rw[he]at hb
     rw[hz,he]at hs
     obtain ⟨rfl,f1⟩:=qbx r1 hz
     obtain ⟨rfl,f2⟩:=qbx r2 he
     have hb:eqV x y=b:=by simpa using hb
     refine q96 pins s σ H x y v u Q I rx ry ⟨hs,?_⟩
     rw[qwe hs f1 f2,hb]
     simpa using q
 | none =>
   rcases qo6 hz hb with ⟨xs,ys,z1,z2⟩ | ⟨xs,ys,z1,z2⟩
   · obtain ⟨a,vs,rfl,ha,hvs⟩:=qj h r1 z1
     obtain ⟨c,ws,rfl,hc,hws⟩:=qj h r2 z2
     rw[z1,z2,eqD]at hb
     cases (show v=Value.ref a from rx);cases (show u=Value.ref c from ry)
     obtain ⟨ia,ra,pa,_⟩:=I.list (SqL.of ha)
     obtain ⟨ib,rb,pb,_⟩:=I.list (SqL.of hc)
     have la:=ra.length;have lb:=rb.length
     have l1:=hvs.length;have l2:=hws.length
     by_cases hxy:xs.length=ys.length
     case neg =>
       simp only [hxy,if_false]at hb
       cases hb
       exact of_rcne (SeqAt.RcNeAt.lists_lengths pa.isList pb.isList (by simp;omega) (by omega)) ⟨.bl _,H,I,rfl,by simpa using q⟩
     simp only [hxy,if_true]at hb
     rw[z1]at hd
     simp only [D.dep]at hd
     refine of_rcne (SeqAt.RcNeAt.lists (e:=qe2 xs ys) pa.isList pb.isList (by simp;omega) (by omega) (fun j h1 h2=> ?_)) ?_
     · simp only [List.size_toArray]at h1 h2
       obtain ⟨x1,y1,v1,w1,e1,q0,q1,q2,s1,s2⟩:=qf0 hvs hws ra rb hb h1 h2
       have hdj:=qgm e1
       exact qlt I 60 X.A.in1 _ _ _ _ _ _ _ (by omega) (by show X.A.units+1+60 < cLine;omega) q0 q1 q2 s1 s2
     · rw[show ia.toArray.size=xs.length by simp;omega,qde hb]
       exact⟨.bl _,H,I,rfl,by simpa using q⟩
   · obtain ⟨a,vs,rfl,ha,hvs⟩:=qai h r1 z1
     obtain ⟨c,ws,rfl,hc,hws⟩:=qai h r2 z2
     rw[z1,z2,eqD]at hb
     cases (show v=Value.ref a from rx);cases (show u=Value.ref c from ry)
     obtain ⟨ia,ra,pa,_⟩:=I.tuple (SqT.of ha)
     obtain ⟨ib,rb,pb,_⟩:=I.tuple (SqT.of hc)
     have la:=ra.length;have lb:=rb.length
     have l1:=hvs.length;have l2:=hws.length
     by_cases hxy:xs.length=ys.length
     case neg=>simp [hxy]at hb
     simp only [hxy,if_true]at hb
     rw[z1]at hd
     simp only [D.dep]at hd
     refine of_rcne (SeqAt.RcNeAt.tuples (e:=qe2 xs ys) (show s.heap.IsTuple a ia.toArray from pa) (show s.heap.IsTuple c ib.toArray from pb) (by omega) (fun j h1 h2=> ?_)) ?_
     · simp only [List.size_toArray]at h1 h2
       obtain ⟨x1,y1,v1,w1,e1,q0,q1,q2,s1,s2⟩:=qf0 hvs hws ra rb hb h1 h2
       have hdj:=qgm e1
       exact qlt I 60 X.A.in1 _ _ _ _ _ _ _ (by omega) (by show X.A.units+1+60 < cLine;omega) q0 q1 q2 s1 s2
     · rw[show ib.toArray.size=ia.toArray.size by simp;omega,Nat.min_self,show ia.toArray.size=xs.length by simp;omega,qde hb]
       simp only [beq_self_eq_true,Bool.and_true]
       exact⟨.bl _,H,I,rfl,by simpa using q⟩
theorem q42 {neg:Bool} {op:CmpOp} (ho:OpR X (compareOp op) (q7d neg)):OpT X (compareOp op) (seen (eqM neg)):=by
 refine⟨_,ho,fun E w H S dx dy x y Q h rx ry q=> ?_⟩
 unfold seen eqM at q
 cases e:eqD (look dx S) (look dy S)with
 | none=>rw[e]at q;exact False.elim q
 | some b =>
   rw[e]at q
   obtain ⟨hz,q⟩:=Wp.iteF q
   rw[Bool.and_eq_true]at hz
   exact⟨w,S,dx,dy,b,h,rx,ry,e,of_decide_eq_true hz.1,hz.2,now h (d:=.bl _) rfl q⟩
noncomputable def q7g (neg:Bool):R2:=fun x y H Q=>∃ (w:Wd) (p:Addr) (vs:List V) (ds:List D) (d:D) (b:Bool),y=.ref p∧(H p=some (.lst vs)∨H p=some (.tup vs))∧qb w H ds vs∧Rep w H d x∧qdg d ds=some b∧Q (.bl (neg != b)) H
theorem q7h (hu:X.A.units+64 < cLine):OpR X (compareOp .In) (q7g false):=by
 intro pins s σ H x y v u Q I rx ry h
 obtain ⟨w,p,vs,ds,d,b,rfl,hp,hvs,hx,hk,q⟩:=h
 cases ry
 rcases hp with hp | hp
 · obtain ⟨its,r,pl,hz⟩:=I.list (SqL.of hp)
   refine SeqAt.in_listAt (inE its ds d) pl.isList (fun w hw=>qho I (A:=X.A.in1) (by show X.A.units+1+60 < cLine;omega) hvs r hx rx hk w (by simpa using hw)) ⟨.bl _,H,I,rfl,?_⟩
   rw[show its.toArray.any (inE its ds d)=its.any (inE its ds d)by simp,qk9 hvs r hk]
   simpa using q
 · obtain ⟨its,r,pl,hz⟩:=I.tuple (SqT.of hp)
   refine SeqAt.in_tupleAt (inE its ds d) (show s.heap.IsTuple p its.toArray from pl) (fun w hw=>qho I (A:=X.A.in1) (by show X.A.units+1+60 < cLine;omega) hvs r hx rx hk w (by simpa using hw)) ⟨.bl _,H,I,rfl,?_⟩
   rw[show its.toArray.any (inE its ds d)=its.any (inE its ds d)by simp,qk9 hvs r hk]
   simpa using q
theorem qx1 (hu:X.A.units+64 < cLine):OpR X (compareOp .NotIn) (q7g true):=by
 intro pins s σ H x y v u Q I rx ry h
 obtain ⟨w,p,vs,ds,d,b,rfl,hp,hvs,hx,hk,q⟩:=h
 cases ry
 rcases hp with hp | hp
 · obtain ⟨its,r,pl,hz⟩:=I.list (SqL.of hp)
   refine SeqAt.notIn_listAt (inE its ds d) pl.isList (fun w hw=>qho I (A:=X.A.in1) (by show X.A.units+1+60 < cLine;omega) hvs r hx rx hk w (by simpa using hw)) ⟨.bl _,H,I,rfl,?_⟩
   rw[show its.toArray.any (inE its ds d)=its.any (inE its ds d)by simp,qk9 hvs r hk]
   simpa using q
 · obtain ⟨its,r,pl,hz⟩:=I.tuple (SqT.of hp)
   refine SeqAt.notIn_tupleAt (inE its ds d) (show s.heap.IsTuple p its.toArray from pl) (fun w hw=>qho I (A:=X.A.in1) (by show X.A.units+1+60 < cLine;omega) hvs r hx rx hk w (by simpa using hw)) ⟨.bl _,H,I,rfl,?_⟩
   rw[show its.toArray.any (inE its ds d)=its.any (inE its ds d)by simp,qk9 hvs r hk]
   simpa using q
theorem qz2 (hu:X.A.units+1 < cLine):OpR X (compareOp .In) (fun x y H Q=>∃ a o,y=.ref a∧qlr H a x o∧Q (.bl o.isSome) H):=by
 intro pins s σ H x y v u Q I rx ry h
 obtain ⟨a,o,rfl,g,q⟩:=h
 cases (show u=Value.ref a from ry)
 exact d_in hu I g rx fun s' I'=>⟨.bl _,H,I',rfl,q⟩
theorem qsi (hu:X.A.units+1 < cLine):OpR X (compareOp .NotIn) (fun x y H Q=>∃ a o,y=.ref a∧qlr H a x o∧Q (.bl (!o.isSome)) H):=by
 intro pins s σ H x y v u Q I rx ry h
 obtain ⟨a,o,rfl,g,q⟩:=h
 cases (show u=Value.ref a from ry)
 exact q23 hu I g rx fun s' I'=>⟨.bl _,H,I',rfl,q⟩
theorem qqb {H:Hp} {a:Addr} {kvs:List (Key × V)} {k:Key} (e:Rd H a (.dK kvs)):qlr H a (kV k) (qiy kvs k):=.inl ⟨kvs,k,e,rfl,rfl⟩
theorem qsj:∀ {ks:List Key} {vs:List V} (k:Key),ks.length=vs.length→(qiy (ks.zip vs) k).isSome=qe6 ks k
 | [],[],k,_=>rfl
 | [],_::_,_,h=>by simp at h
 | _::_,[],_,h=>by simp at h
 | j ::ks,v::vs,k,h=>by
   rw[List.zip_cons_cons]
   by_cases e:j=k
   · rw[qfc e];simp [qe6,e]
   · rw[qfd e,qsj k (by simpa using h)]
     simp [qe6,e]
theorem qz3 {w:Wd} {S:Sto} {d:D} {v:V} {k:Key} (r:Rep w H d v) (e:keyOf (look d S)=some k):v=kV k:=by
 cases h:look d S <;> rw[h]at e <;> simp only [keyOf]at e <;> first | (cases e;done) | skip
 · cases e;exact qr r h
 · cases e;exact qb0 r h
theorem q43 {neg:Bool} {op:CmpOp} (ho:OpR X (compareOp op) (q7g neg)) (hd:OpR X (compareOp op) (fun x y H Q=>∃ a o,y=.ref a∧qlr H a x o∧Q (.bl (neg != o.isSome)) H))
   (hs:OpR X (compareOp op) (fun x y H Q=>∃ i j,x=.str i∧y=.str j∧Q (.bl (neg != !(Builtin.Str.occurrences j i 0 j.length 1).isEmpty)) H)):OpT X (compareOp op) (fun x y S=>inM neg x (look y S) S):=by
 refine⟨_,ho.or (hd.or hs),fun E w H S dx dy x y Q h rx ry q=> ?_⟩
 dsimp only at q
 unfold inM at q
 cases e2:look dy S <;> rw[e2]at q <;> first | exact False.elim q | skip
 case lst es =>
   dsimp only at q
   cases e:qdg dx es with
   | none=>rw[e]at q;exact False.elim q
   | some b =>
     rw[e]at q
     obtain ⟨a,vs,rfl,ha,hvs⟩:=qj h ry e2
     exact .inl ⟨w,a,vs,es,dx,b,rfl,.inl ha,hvs,rx,e,now h (d:=.bl _) rfl q⟩
 case tup es =>
   dsimp only at q
   cases e:qdg dx es with
   | none=>rw[e]at q;exact False.elim q
   | some b =>
     rw[e]at q
     obtain ⟨a,vs,rfl,ha,hvs⟩:=qai h ry e2
     exact .inl ⟨w,a,vs,es,dx,b,rfl,.inr ha,hvs,rx,e,now h (d:=.bl _) rfl q⟩
 case dct ks xs =>
   dsimp only at q
   cases e:keyOf dx with
   | none=>rw[e]at q;exact False.elim q
   | some k =>
     rw[e]at q
     obtain ⟨a,vs,rfl,ha,hl,hvs⟩:=qdf h ry e2
     have e':keyOf (look dx S)=some k:=by cases dx <;> first | exact e | (cases e;done)
     refine .inr (.inl ⟨a,_,rfl,by rw[qz3 rx e'];exact qqb ha,?_⟩)
     rw[qsj k (by rw[hl,hvs.length])]
     exact now h (d:=.bl _) rfl q
 case str j =>
   cases dx <;> first | exact False.elim q | skip
   case str i=>exact .inr (.inr ⟨i,j,rx,qb0 ry e2,now h (d:=.bl _) rfl q⟩)
theorem qi0 (hu:X.A.units+64 < cLine):∀ op:CmpOp,OpT X (compareOp op) (qa8 op)
 | .Lt=>qla q97
 | .LtE=>qla q98
 | .Gt=>qla q99
 | .GtE=>qla qaaa
 | .Eq=>q42 (q7e hu)
 | .NotEq=>q42 (q7f hu)
 | .Is=>qaaw
 | .IsNot=>qz1
 | .In=>q43 (q7h hu) (by simpa using qz2 (Nat.lt_of_le_of_lt (by omega) hu)) (by simpa using qxi)
 | .NotIn=>q43 (qx1 hu) (by simpa using qsi (Nat.lt_of_le_of_lt (by omega) hu)) (by simpa using qp2)
end
theorem qff {α β:Type} {xs:List α} {ys:List β} (h:xs.length=ys.length):xs.isEmpty=ys.isEmpty:=by
 cases xs <;> cases ys <;> first | rfl | (simp at h;done)
noncomputable def qfg (i:Nat) (Γ:Env):M D:=match Γ[i]? with
 | some (some d)=>M.pure d
 | _=>M.fail
noncomputable def asB:D→M Bool
 | .bl b=>M.pure b
 | _=>M.fail
noncomputable def qu4:D→M D
 | .int i=>M.pure (.int (-i))
 | _=>M.fail
noncomputable def qi1 (d:D):M Bool:=fun S=>match look d S with
 | .non=>M.pure false S
 | .bl b=>M.pure b S
 | .int i=>M.pure (i != 0) S
 | .str y=>(if sizeOk y.length then M.pure ((y.length:Int) != 0)else M.fail) S
 | .lst xs=>M.pure (!xs.isEmpty) S
 | .tup xs=>M.pure (!xs.isEmpty) S
 | .dct ks _=>M.pure (!ks.isEmpty) S
 | _=>M.fail S
section
variable {X:Cx} {E:XW} {a b c:Expr} {f g h':Env→M D} {pos:Pos}
theorem qaax {i:Nat} {x:Str} (hN:X.N[i]? =some x) (hv:Vis X.env.scope x) (hd:(x==("__debug__":Str))=false) (hcd:(x==("__classdict__":Str))=false):PE X (.Name x pos) (tD E (qfg i)):=by
 refine PE.mono (quq hN hv hd hcd) fun σ H Q ⟨w,Γ,S,rel,hold,q⟩=> ?_
 unfold qfg at q
 cases e:Γ[i]? with
 | none=>rw[e]at q;exact False.elim q
 | some o =>
   cases o with
   | none=>rw[e]at q;exact False.elim q
   | some d =>
     rw[e]at q
     obtain ⟨v,ev,rv⟩:=rel.at_ i d e
     exact⟨v,ev,now hold rv q⟩
theorem qhp {v:V} {d:D} {e:Expr} (h:PE X e (tC v)) (hr:∀ w H,Rep w H d v):PE X e (tD E fun _=>M.pure d) :=
 PE.mono h fun σ H Q ⟨w,Γ,S,rel,hold,q⟩=>now hold (hr w H) q
theorem r_op {op:Operator} {k:D→D→M D} (ot:OpT X (binaryOp op) k) (ha:PE X a (tD E f)) (hb:PE X b (tD E g)):PE X (.BinOp a op b pos) (tD E fun Γ=>M.bind (f Γ) fun x=>M.bind (g Γ) fun y=>k x y):=by
 obtain ⟨r,ho,hk⟩:=ot
 refine PE.mono (q92 ho ha hb) fun σ H Q ⟨w,Γ,S,rel,hold,q⟩=> ?_
 exact qd (k:=fun x Γ=>M.bind (g Γ) fun y=>k x y) rel hold q fun dx x S1 w1 H1 l1 rel1 h1 rx q1=>qd (k:=fun y Γ=>k dx y) rel1 h1 q1 fun dy y S2 w2 H2 l2 rel2 h2 ry q2=>hk E w2 H2 S2 dx dy x y Q h2 (rx.mono l2) ry q2
theorem qaay {op:CmpOp} {k:D→D→M D} (ot:OpT X (compareOp op) k) (ha:PE X a (tD E f)) (hb:PE X b (tD E g)) (hm:behindInMarks op b=false):PE X (.Compare a [op] [b] pos) (tD E fun Γ=>M.bind (f Γ) fun x=>M.bind (g Γ) fun y=>k x y):=by
 obtain ⟨r,ho,hk⟩:=ot
 refine PE.mono (q2n ho ha hb hm) fun σ H Q ⟨w,Γ,S,rel,hold,q⟩=> ?_
 exact qd (k:=fun x Γ=>M.bind (g Γ) fun y=>k x y) rel hold q fun dx x S1 w1 H1 l1 rel1 h1 rx q1=>qd (k:=fun y Γ=>k dx y) rel1 h1 q1 fun dy y S2 w2 H2 l2 rel2 h2 ry q2=>hk E w2 H2 S2 dx dy x y Q h2 (rx.mono l2) ry q2
theorem toB {w:Wd} {H:Hp} {S:Sto} {m:M D} {Q:Bool→Hp→Prop} (q:Wp E w H (M.bind m asB S) fun b _ _ H'=>Q b H'):Wp E w H (m S) (PV fun v H'=>∃ k,v=.bl k∧Q k H'):=by
 refine(Wp.bind q).mono fun d S1 w1 H1 l1 h1 q1 v rv=> ?_
 cases d <;> first | exact False.elim q1 | skip
 exact⟨_,rv,q1 _ _ (Le.refl _ _) h1⟩
theorem q7i {op:CmpOp} {k:D→D→M D} (ot:OpT X (compareOp op) k) (ha:PE X a (tD E f)) (hb:PE X b (tD E g)) (hm:behindInMarks op b=false):PT X (.Compare a [op] [b] pos) (tB E fun Γ=>M.bind (M.bind (f Γ) fun x=>M.bind (g Γ) fun y=>k x y) asB):=by
 obtain ⟨r,ho,hk⟩:=ot
 refine PT.mono (q2o ho ha hb hm) fun σ H Q ⟨w,Γ,S,rel,hold,q⟩=> ?_
 exact qd (k:=fun x Γ=>M.bind (g Γ) fun y=>k x y) rel hold (toB q) fun dx x S1 w1 H1 l1 rel1 h1 rx q1=>qd (k:=fun y Γ=>k dx y) rel1 h1 q1 fun dy y S2 w2 H2 l2 rel2 h2 ry q2=>hk E w2 H2 S2 dx dy x y _ h2 (rx.mono l2) ry q2
noncomputable def qi2 (k k':D→D→M D) (f g h:Env→M D) (Γ:Env):M D:=M.bind (f Γ) fun x=>M.bind (g Γ) fun y=>M.bind (k x y) fun z=>M.bind (asB z) fun b=>if b=true then M.bind (h Γ) fun u=>k' y u else M.pure (.bl false)
theorem qsk {op op':CmpOp} {k k':D→D→M D} {r r':R2} {σ:St} {H:Hp} {Q:VK} (hk:∀ (E:XW) w H S dx dy x y Q,qe w H S→Rep w H dx x→Rep w H dy y→Wp E w H (k dx dy S) (PV Q)→r x y H Q)
   (hk':∀ (E:XW) w H S dx dy x y Q,qe w H S→Rep w H dx x→Rep w H dy y→Wp E w H (k' dx dy S) (PV Q)→r' x y H Q) {w:Wd} {Γ:Env} {S:Sto} (rel:Rel w H σ Γ) (hold:qe w H S) (q:Wp E w H (qi2 k k' f g h' Γ S) (PV Q)) :
   quu r r' (tD E f) (tD E g) (tD E h') σ H Q:=by
 refine qd (k:=fun x Γ=>M.bind (g Γ) fun y=>M.bind (k x y) fun z=>M.bind (asB z) fun b=>if b=true then M.bind (h' Γ) fun u=>k' y u else M.pure (.bl false)) rel hold q fun dx x S1 w1 H1 l1 rel1 h1 rx q1=> ?_
 refine qd (k:=fun y Γ=>M.bind (k dx y) fun z=>M.bind (asB z) fun b=>if b=true then M.bind (h' Γ) fun u=>k' y u else M.pure (.bl false)) rel1 h1 q1 fun dy y S2 w2 H2 l2 rel2 h2 ry q2=> ?_
 refine hk E w2 H2 S2 dx dy x y _ h2 (rx.mono l2) ry ((Wp.bind q2).mono fun z S3 w3 H3 l3 h3 q3 v rv=> ?_)
 cases z <;> first | exact False.elim q3 | skip
 rename_i bb
 refine⟨bb,rv,?_⟩
 cases bb with
 | true =>
   rw[if_pos rfl]
   exact qd (k:=fun u Γ=>k' dy u) (rel2.mono l3) h3 q3 fun du u S4 w4 H4 l4 rel4 h4 ru q4=>hk' E w4 H4 S4 dy du y u Q h4 (ry.mono (l3.trans l4)) ru q4
 | false =>
   rw[if_neg Bool.false_ne_true]
   exact now h3 (d:=.bl _) rfl q3
theorem q28 {op op':CmpOp} {k k':D→D→M D} (ot:OpT X (compareOp op) k) (ot':OpT X (compareOp op') k') (ha:PE X a (tD E f)) (hb:PE X b (tD E g)) (hc:PE X c (tD E h')) (hm:lastMarks [op,op'] [b,c]=false):PE X (.Compare a [op,op'] [b,c] pos) (tD E (qi2 k k' f g h')):=by
 obtain ⟨r,ho,hk⟩:=ot
 obtain ⟨r',ho',hk'⟩:=ot'
 exact PE.mono (qy6 ho ho' ha hb hc hm) fun σ H Q ⟨w,Γ,S,rel,hold,q⟩=>qsk (op:=op) (op':=op') hk hk' rel hold q
theorem qz4 {op op':CmpOp} {k k':D→D→M D} (ot:OpT X (compareOp op) k) (ot':OpT X (compareOp op') k') (ha:PE X a (tD E f)) (hb:PE X b (tD E g)) (hc:PE X c (tD E h')) (hm:lastMarks [op,op'] [b,c]=false):PT X (.Compare a [op,op'] [b,c] pos) (tB E fun Γ=>M.bind (qi2 k k' f g h' Γ) asB):=by
 obtain ⟨r,ho,hk⟩:=ot
 obtain ⟨r',ho',hk'⟩:=ot'
 exact PT.mono (qy7 ho ho' ha hb hc hm) fun σ H Q ⟨w,Γ,S,rel,hold,q⟩=>qsk (op:=op) (op':=op') hk hk' rel hold (toB q)
theorem qaaz (ha:PE X a (tD E f)):PE X (.UnaryOp .USub a pos) (tD E fun Γ=>M.bind (f Γ) qu4):=by
 refine PE.mono (q93 q6e ha) fun σ H Q ⟨w,Γ,S,rel,hold,q⟩=> ?_
 refine qd (k:=fun x Γ=>qu4 x) rel hold q fun dx x S1 w1 H1 l1 rel1 h1 rx q1=> ?_
 cases dx <;> first | exact False.elim q1 | skip
 exact⟨_,rx,now h1 (d:=.int _) rfl q1⟩
theorem q7j:q91 X (fun x H Q=>∃ a kvs,x=.ref a∧Rd H a (.dK kvs)∧Q (!kvs.isEmpty) H):=by
 intro pins s σ H x v Q I r h
 obtain ⟨a,kvs,rfl,hd,q⟩:=h
 cases (show v=Value.ref a from r)
 exact q24 I hd fun s' I'=>⟨H,I',q⟩
theorem q29 {a:Expr} {ta:TE} (ha:PE X a ta) (he:∀ whole,isTrue a X.env whole=(do let v ← whole;standAt a.pos;holding [v] (truthy v))) :
   PT X a (fun σ H Q=>ta σ H fun x H'=>(∃ k,TruV X.K x H' k∧Q k H')∨∃ a kvs,x=.ref a∧Rd H' a (.dK kvs)∧Q (!kvs.isEmpty) H'):=by
 intro pins s σ H Q I h
 rw[he]
 refine wpAny_bind (thn (ha pins s σ H _ I h) fun v s1 ⟨x,H1,I1,r1,q1⟩=>wpAny_bind (wpAny_standAt (wpAny_holding ?_)))
 rcases q1 with q1 | q1
 · exact q6g pins s1 σ H1 x v Q I1 r1 q1
 · exact q7j pins s1 σ H1 x v Q I1 r1 q1
theorem qaa0 (ha:PE X a (tD E f)) (he:∀ whole,isTrue a X.env whole=(do let v ← whole;standAt a.pos;holding [v] (truthy v))):PT X a (tB E fun Γ=>M.bind (f Γ) qi1):=by
 refine PT.mono (q29 ha he) fun σ H Q ⟨w,Γ,S,rel,hold,q⟩=> ?_
 refine qd (k:=fun x Γ=>qi1 x) rel hold q fun dx x S1 w1 H1 l1 rel1 h1 rx q1=> ?_
 unfold qi1 at q1
 cases e:look dx S1 <;> rw[e]at q1 <;> first | exact False.elim q1 | skip
 case non=>exact .inl ⟨false,by rw[qhn rx e];rfl,q1 _ _ (Le.refl _ _) h1⟩
 case bl b=>exact .inl ⟨b,by rw[qwd rx e];rfl,q1 _ _ (Le.refl _ _) h1⟩
 case int i=>exact .inl ⟨i != 0,by rw[qr rx e];rfl,q1 _ _ (Le.refl _ _) h1⟩
 case str y =>
   obtain ⟨hz,q1⟩:=Wp.iteF q1
   exact .inl ⟨_,by rw[qb0 rx e];exact⟨of_decide_eq_true hz,rfl⟩,q1 _ _ (Le.refl _ _) h1⟩
 case lst xs =>
   obtain ⟨p,vs,rfl,hp,hvs⟩:=qj h1 rx e
   refine .inl ⟨!vs.isEmpty,.inl ⟨vs,SqL.of hp,rfl⟩,?_⟩
   have:vs.isEmpty=xs.isEmpty:=qff hvs.length.symm
   rw[this]
   exact q1 _ _ (Le.refl _ _) h1
 case tup xs =>
   obtain ⟨p,vs,rfl,hp,hvs⟩:=qai h1 rx e
   refine .inl ⟨!vs.isEmpty,.inr (.inl ⟨vs,SqT.of hp,rfl⟩),?_⟩
   have:vs.isEmpty=xs.isEmpty:=qff hvs.length.symm
   rw[this]
   exact q1 _ _ (Le.refl _ _) h1
 case dct ks xs =>
   obtain ⟨p,vs,rfl,hp,hl,hvs⟩:=qdf h1 rx e
   refine .inr ⟨p,_,rfl,hp,?_⟩
   have:(ks.zip vs).isEmpty=ks.isEmpty:=qff (by rw[List.length_zip,← hvs.length,← hl,Nat.min_self])
   rw[this]
   exact q1 _ _ (Le.refl _ _) h1
theorem qc3 {α:Type} {f:Env→M Bool} {k:Bool→Env→M α} {σ:St} {H:Hp} {w:Wd} {Γ:Env} {S:Sto} {P:α→Sto→Wd→Hp→Prop} {Q:Bool→Hp→Prop} (r:Rel w H σ Γ) (h:qe w H S)
   (q:Wp E w H (M.bind (f Γ) (fun d=>k d Γ) S) P) (hk:∀ b S1 w1 H1,Le w H w1 H1→Rel w1 H1 σ Γ→qe w1 H1 S1→Wp E w1 H1 (k b Γ S1) P→Q b H1):tB E f σ H Q :=
 ⟨w,Γ,S,r,h,(Wp.bind q).mono fun b S1 w1 H1 l h1 q1=>hk b S1 w1 H1 l (r.mono l) h1 q1⟩
noncomputable def q7k (f g:Env→M Bool) (Γ:Env):M Bool:=M.bind (f Γ) fun b=>if b=true then g Γ else M.pure false
noncomputable def orB (f g:Env→M Bool) (Γ:Env):M Bool:=M.bind (f Γ) fun b=>if b=true then M.pure true else g Γ
noncomputable def q7l (f:Env→M Bool) (Γ:Env):M Bool:=M.bind (f Γ) fun b=>M.pure (!b)
theorem PW.mono {e:Expr} {t t':TT} (h:PW X e t) (k:∀ σ H Q,t' σ H Q→t σ H Q):PW X e t':=fun wh pins s σ H Q I q=>h wh pins s σ H Q I (k σ H Q q)
variable {fa fb:Env→M Bool} {rest:List Expr}
theorem qz5 (ha:PT X a (tB E fa)):PW X (.BoolOp .And [a] pos) (tB E fa):=q2a ha
theorem q44 (ha:PT X a (tB E fa)):PW X (.BoolOp .Or [a] pos) (tB E fa):=q5r ha
theorem qz6 (ha:PT X a (tB E fa)) (hb:PW X (.BoolOp .And (b::rest) pos) (tB E fb)):PW X (.BoolOp .And (a::b::rest) pos) (tB E (q7k fa fb)):=by
 refine PW.mono (q5s ha hb) fun σ H Q ⟨w,Γ,S,rel,hold,q⟩=> ?_
 refine qc3 (k:=fun b Γ=>if b=true then fb Γ else M.pure false) rel hold q fun bb S1 w1 H1 l1 rel1 h1 q1=> ?_
 cases bb with
 | true=>exact⟨w1,Γ,S1,rel1,h1,q1⟩
 | false=>exact q1 _ _ (Le.refl _ _) h1
theorem q45 (ha:PT X a (tB E fa)) (hb:PW X (.BoolOp .Or (b::rest) pos) (tB E fb)):PW X (.BoolOp .Or (a::b::rest) pos) (tB E (orB fa fb)):=by
 refine PW.mono (q9o ha hb) fun σ H Q ⟨w,Γ,S,rel,hold,q⟩=> ?_
 refine qc3 (k:=fun b Γ=>if b=true then M.pure true else fb Γ) rel hold q fun bb S1 w1 H1 l1 rel1 h1 q1=> ?_
 cases bb with
 | false=>exact⟨w1,Γ,S1,rel1,h1,q1⟩
 | true=>exact q1 _ _ (Le.refl _ _) h1
theorem q7m (ha:PT X a (tB E fa)):PT X (.UnaryOp .Not a pos) (tB E (q7l fa)):=by
 refine PT.mono (q5t ha) fun σ H Q ⟨w,Γ,S,rel,hold,q⟩=> ?_
 exact qc3 (k:=fun b Γ=>M.pure (!b)) rel hold q fun bb S1 w1 H1 l1 rel1 h1 q1=>q1 _ _ (Le.refl _ _) h1
noncomputable def q7n (f g:Env→M D) (Γ:Env):M D:=M.bind (f Γ) fun x=>M.bind (asB x) fun b=>if b=true then g Γ else M.pure (.bl false)
noncomputable def orV (f g:Env→M D) (Γ:Env):M D:=M.bind (f Γ) fun x=>M.bind (asB x) fun b=>if b=true then M.pure (.bl true)else g Γ
noncomputable def q7o (f:Env→M D) (Γ:Env):M D:=M.bind (f Γ) fun x=>M.bind (asB x) fun b=>M.pure (.bl (!b))
theorem qaa1 {op:BoolOp} (ha:PE X a (tD E f)):PE X (.BoolOp op [a] pos) (tD E f):=q5u ha
theorem qaa2 (ha:PE X a (tD E f)) (hb:PE X (.BoolOp .And (b::rest) pos) (tD E g)):PE X (.BoolOp .And (a::b::rest) pos) (tD E (q7n f g)):=by
 refine PE.mono (q5v ha hb) fun σ H Q ⟨w,Γ,S,rel,hold,q⟩=> ?_
 refine qd (k:=fun x Γ=>M.bind (asB x) fun b=>if b=true then g Γ else M.pure (.bl false)) rel hold q fun dx x S1 w1 H1 l1 rel1 h1 rx q1=> ?_
 cases dx <;> first | exact False.elim q1 | skip
 rename_i bb
 refine⟨bb,rx,?_⟩
 cases bb with
 | true=>exact⟨w1,Γ,S1,rel1,h1,q1⟩
 | false=>exact now h1 (d:=.bl _) rfl q1
theorem r_or (ha:PE X a (tD E f)) (hb:PE X (.BoolOp .Or (b::rest) pos) (tD E g)):PE X (.BoolOp .Or (a::b::rest) pos) (tD E (orV f g)):=by
 refine PE.mono (q9r ha hb) fun σ H Q ⟨w,Γ,S,rel,hold,q⟩=> ?_
 refine qd (k:=fun x Γ=>M.bind (asB x) fun b=>if b=true then M.pure (D.bl true)else g Γ) rel hold q fun dx x S1 w1 H1 l1 rel1 h1 rx q1=> ?_
 cases dx <;> first | exact False.elim q1 | skip
 rename_i bb
 refine⟨bb,rx,?_⟩
 cases bb with
 | false=>exact⟨w1,Γ,S1,rel1,h1,q1⟩
 | true=>exact now h1 (d:=.bl _) rfl q1
theorem qaa3 (ha:PE X a (tD E f)):PE X (.UnaryOp .Not a pos) (tD E (q7o f)):=by
 refine PE.mono (q5w ha) fun σ H Q ⟨w,Γ,S,rel,hold,q⟩=> ?_
 refine qd (k:=fun x Γ=>M.bind (asB x) fun b=>M.pure (D.bl (!b))) rel hold q fun dx x S1 w1 H1 l1 rel1 h1 rx q1=> ?_
 cases dx <;> first | exact False.elim q1 | skip
 exact⟨_,rx,now h1 (d:=.bl _) rfl q1⟩
noncomputable def ifE (c:Env→M Bool) (f g:Env→M D) (Γ:Env):M D:=M.bind (c Γ) fun b=>if b=true then f Γ else g Γ
theorem qaa4 (hc:PT X c (tB E fa)) (ha:PE X a (tD E f)) (hb:PE X b (tD E g)):PE X (.IfExp c a b pos) (tD E (ifE fa f g)):=by
 refine PE.mono (qyz hc ha hb) fun σ H Q ⟨w,Γ,S,rel,hold,q⟩=> ?_
 refine qc3 (k:=fun b Γ=>if b=true then f Γ else g Γ) rel hold q fun bb S1 w1 H1 l1 rel1 h1 q1=> ?_
 cases bb with
 | true=>exact⟨w1,Γ,S1,rel1,h1,q1⟩
 | false=>exact⟨w1,Γ,S1,rel1,h1,q1⟩
variable {es:List Expr} {e:Expr} {fs:Env→M (List D)}
noncomputable def qz7 (f:Env→M D) (r:Env→M (List D)) (Γ:Env):M (List D):=M.bind (f Γ) fun x=>M.bind (r Γ) fun xs=>M.pure (x::xs)
theorem qaa5:PA X [] (tL E fun _=>M.pure []):=PA.mono qis fun σ H Q ⟨w,Γ,S,rel,hold,q⟩=>q _ _ (Le.refl _ _) hold [] rfl
theorem q7p (ha:PE X e (tD E f)) (hr:PA X es (tL E fs)) (hs:starEach (e::es) X.env=(false,eval e X.env)::starEach es X.env):PA X (e::es) (tL E (qz7 f fs)):=by
 refine PA.mono (qcz ha hr hs) fun σ H Q ⟨w,Γ,S,rel,hold,q⟩=> ?_
 refine qd (k:=fun x Γ=>M.bind (fs Γ) fun xs=>M.pure (x::xs)) rel hold q fun dx x S1 w1 H1 l1 rel1 h1 rx q1=> ?_
 exact⟨w1,Γ,S1,rel1,h1,(Wp.bind q1).mono fun ds S2 w2 H2 l2 h2 q2 vs rvs=>q2 _ _ (Le.refl _ _) h2 _ (qb.cons (rx.mono l2) rvs)⟩
theorem qb1 {α:Type} {f:Env→M (List D)} {k:List D→Env→M α} {σ:St} {H:Hp} {w:Wd} {Γ:Env} {S:Sto} {P:α→Sto→Wd→Hp→Prop} {Q:List V→Hp→Prop} (r:Rel w H σ Γ) (h:qe w H S)
   (q:Wp E w H (M.bind (f Γ) (fun d=>k d Γ) S) P) (hk:∀ ds vs S1 w1 H1,Le w H w1 H1→Rel w1 H1 σ Γ→qe w1 H1 S1→qb w1 H1 ds vs→Wp E w1 H1 (k ds Γ S1) P→Q vs H1):tL E f σ H Q :=
 ⟨w,Γ,S,r,h,(Wp.bind q).mono fun d S1 w1 H1 l h1 q1 v rv=>hk d v S1 w1 H1 l (r.mono l) h1 rv q1⟩
noncomputable def mkT (ds:List D):M D:=if sizeOk ds.length then M.pure (.tup ds)else M.fail
noncomputable def mkL (new:Bool) (ds:List D):M D:=if sizeOk ds.length then alloc new (.lst ds)else M.fail
theorem qaa6 {x1:Nat} (h:PA X es (tL E fs)):PE X (.Tuple es x1 pos) (tD E fun Γ=>M.bind (fs Γ) mkT):=by
 refine PE.mono (q6i h) fun σ H Q ⟨w,Γ,S,rel,hold,q⟩=> ?_
 refine qb1 (k:=fun ds _=>mkT ds) rel hold q fun ds vs S1 w1 H1 l1 rel1 h1 rv q1=> ?_
 obtain ⟨hz,q1⟩:=Wp.iteF q1
 exact⟨by rw[← rv.length];exact of_decide_eq_true hz,fun p hp=>qk7 h1 rv q1 hp⟩
theorem qaa7 {new:Bool} (h:PA X es (tL E fs)):PE X (.List es pos) (tD E fun Γ=>M.bind (fs Γ) (mkL new)):=by
 refine PE.mono (qy8 h) fun σ H Q ⟨w,Γ,S,rel,hold,q⟩=> ?_
 refine qb1 (k:=fun ds _=>mkL new ds) rel hold q fun ds vs S1 w1 H1 l1 rel1 h1 rv q1=> ?_
 obtain ⟨hz,q1⟩:=Wp.iteF q1
 exact⟨by rw[← rv.length];exact of_decide_eq_true hz,fun p hp=>qay h1 rv q1 hp⟩
theorem q7q {new:Bool}:PE X (.Dict [] [] pos) (tD E fun _=>alloc new (.dct [] [])) :=
 PE.mono qzx fun σ H Q ⟨w,Γ,S,rel,hold,q⟩=>fun p hp=>qo5 (ks:=[]) (xs:=[]) (vs:=[]) hold rfl rfl q hp
end
end T3
namespace L2
open PySem PySem.Spec PyProof.Rows
section
variable {X:Cx}
noncomputable def q3a:V→List V→Hp→VK→Prop:=fun x vs H Q=>∃ (l:Addr) (xs:List V) (j:Int) (y:V),x=.ref l∧vs=[.int j,y]∧0≤j∧j≤xs.length∧H l=some (.lst xs)∧xs.length < sizeLine∧Q .non (upd H l (.lst (xs.take j.toNat++y::xs.drop j.toNat)))
theorem qx2:MtM X "list.insert" q3a:=by
 intro pins s σ H x vs v us Q I rx rv h
 obtain ⟨l,xs,j,y,rfl,rfl,j0,hj,hH,hz,q⟩:=h
 cases rx
 obtain ⟨u,u2,rfl,ru,ru2⟩:=rv.two
 obtain ⟨t,rfl⟩:=ru
 obtain ⟨z,its,n,r,hl,e⟩:=I.lstM hH
 have hs:sizeLine=16777216:=sizeLine_eq
 have hf:Builtin.List.listFitsIndex j=true:=by
   unfold Builtin.List.listFitsIndex
   simp
   omega
 have hc:¬ (!Builtin.List.listFitsIndex j)=true:=by rw[hf];decide
 have hsz:its.toArray.size≤sizeLine:=by rw[List.size_toArray];omega
 refine call_meets PySem.F.slot_list_insert ⟨_,e,rfl⟩ PySem.F.entry_list_insert (PySem.F.args_list_insert_3 _ _ _) (PySem.AutoSeq1.list_insert_list_int_val_1 l its.toArray n j t u2 hc hsz) ⟨e,?_⟩
 refine⟨.non,_,I.lset (its':=its.take j.toNat++u2::its.drop j.toNat) hH e ?_ ((r.take j.toNat).append (.cons ru2 (r.drop j.toNat))) ?_,rfl,q⟩
 · have hn:¬ (j < 0):=by omega
   have hm:min j.toNat its.length=j.toNat:=by omega
   simp only [hn,if_false,List.size_toArray,hm]
   apply Array.ext'
   simp
   rw[List.take_of_length_le (by simp)]
 · simp
   omega
end
open PySem
section
variable {X:Cx}
end
section
variable {X:Cx}
noncomputable def rJoin (K:PySem.W.Frag):V→List V→Hp→VK→Prop:=fun x vs H Q=>∃ (z:Str) (l:Addr) (ys:List Str),x=.str z∧vs=[.ref l]∧SqL K H l (ys.map V.str)∧(ys.map (·.length)).sum+ys.length * z.length≤16777216∧Q (.str (PySem.Txt.join z ys)) H
theorem qwf:∀ {ys:List Str} {us:List Value},Vals (ys.map V.str) us→StrsAre us ys
 | [],_,.nil=>.nil
 | y::ys,_,.cons r t=>by
   obtain ⟨k,rfl⟩:=r
   exact .cons y k (qwf t)
theorem q3b:MtM X "str.join" (rJoin X.K):=by
 intro pins s σ H x vs v us Q I rx rv h
 obtain ⟨z,l,ys,rfl,rfl,hl,hz,q⟩:=h
 obtain ⟨t,rfl⟩:=rx
 obtain ⟨u,rfl,ru⟩:=rv.one
 cases ru
 obtain ⟨its,r,pl,_⟩:=I.list hl
 exact join_list pl.isList (by simpa using qwf r) hz fun t' k=>⟨.str _,H,I.tok k,⟨t',rfl⟩,q⟩
end
end L2
namespace T3
open PySem PySem.Spec PyProof.Rows L2
noncomputable def qfh:List Key→List D→Key→Option D
 | k::ks,d::ds,j=>if k=j then some d else qfh ks ds j
 | _,_,_=>none
noncomputable def ixM (x y:D):M D:=match x,y with
 | .lst xs,.int i=>match atI xs i with
   | some d=>M.pure d
   | none=>M.fail
 | .tup xs,.int i=>match atI xs i with
   | some d=>M.pure d
   | none=>M.fail
 | .str z,.int i=>match atI z.cps.toList i with
   | some c=>if sizeOk z.length then M.pure (.str ⟨#[c]⟩)else M.fail
   | none=>M.fail
 | .dct ks ds,k=>match keyOf k with
   | some j=>match qfh ks ds j with
     | some d=>M.pure d
     | none=>M.fail
   | none=>M.fail
 | _,_=>M.fail
theorem qqc {w:Wd} {H:Hp} {ds:List D} {vs:List V} {i:Int} {d:D} (r:qb w H ds vs) (e:atI ds i=some d):∃ v,atI vs i=some v∧Rep w H d v:=by
 unfold atI at e ⊢
 rw[← r.length]
 cases q:ixN ds.length i with
 | none=>rw[q]at e;simp at e
 | some j =>
   rw[q]at e
   have e:ds[j]? =some d:=e
   obtain ⟨v,h1,h2⟩:=r.get e
   exact⟨v,h1,h2⟩
theorem qlw {w:Wd} {H:Hp} {j:Key} {d:D}:∀ {ks:List Key} {ds:List D} {vs:List V},qb w H ds vs→qfh ks ds j=some d→∃ v,qiy (ks.zip vs) j=some v∧Rep w H d v
 | [],_,_,_,e=>by simp [qfh]at e
 | _::_,[],_,_,e=>by simp [qfh]at e
 | k ::ks,x::ds,_,⟨v,r,e0,h,t⟩,e=>by
   subst e0
   rw[qfh]at e
   rw[List.zip_cons_cons]
   by_cases hk:k=j
   · rw[if_pos hk]at e
     cases e
     exact⟨v,qfc hk,h⟩
   · rw[if_neg hk]at e
     obtain ⟨u,h1,h2⟩:=qlw t e
     exact⟨u,by rw[qfd hk];exact h1,h2⟩
section
variable {X:Cx} {E:XW} {a b c:Expr} {f g h':Env→M D} {pos:Pos}
theorem q7r (hu:X.A.units+1 < cLine):IxR X (fun x y H Q=>∃ a v,x=.ref a∧qlr H a y (some v)∧Q v H):=by
 intro value slice pins s σ H x y v u Q I rx ry h hs
 obtain ⟨p,z,rfl,g,q⟩:=h
 cases (show v=Value.ref p from rx)
 unfold subscriptTail
 have hT:=qsc I g
 refine wpAny_bind ?_
 rw[getitemInPython_of_ne hT.not_modules]
 refine wpAny_bind (wpAny_specialOf hT PySem.F.slot_dict_getitem.lookup ?_)
 have fin:wpAny (model X.prog X.w) X.A (subscripted slice false (.ref p) u) (fun r s₃=>wpAny (model X.prog X.w) X.A (letTemporaryGo value (.ref p) r >>= fun _=>pure r) (EP X pins σ Q) X.xe s₃) X.xe s:=by
   rw[hs]
   exact wpAny_operating (qo2 hu I g ry fun w' s3 I3 rw'=>wpAny_bind (wpAny_letTemporaryGo (wpAny_pure ⟨z,H,I3,rw',q⟩)))
 exact wpAny_pure (wpAny_bind fin)
noncomputable def IxT (X:Cx) (h:D→D→M D):Prop:=∃ r:R2,IxR X r∧∀ (E:XW) w H S dx dy x y Q,qe w H S→Rep w H dx x→Rep w H dy y→Wp E w H (h dx dy S) (PV Q)→r x y H Q
theorem qaa8 (hu:X.A.units+1 < cLine):IxT X (fun x y S=>ixM (look x S) y S):=by
 refine⟨_,q2t.or (qzd.or (q6m.or (q7r hu))),fun E w H S dx dy x y Q h rx ry q=> ?_⟩
 dsimp only at q
 unfold ixM at q
 cases e1:look dx S <;> rw[e1]at q <;> first | exact False.elim q | skip
 case lst xs =>
   cases dy <;> first | exact False.elim q | skip
   rename_i i
   dsimp only at q
   cases e:atI xs i with
   | none=>rw[e]at q;exact False.elim q
   | some d =>
     rw[e]at q
     obtain ⟨p,vs,rfl,hp,hvs⟩:=qj h rx e1
     obtain ⟨v,e',rv⟩:=qqc hvs e
     exact .inl ⟨p,vs,i,v,rfl,ry,SqL.of hp,e',now h rv q⟩
 case tup xs =>
   cases dy <;> first | exact False.elim q | skip
   rename_i i
   dsimp only at q
   cases e:atI xs i with
   | none=>rw[e]at q;exact False.elim q
   | some d =>
     rw[e]at q
     obtain ⟨p,vs,rfl,hp,hvs⟩:=qai h rx e1
     obtain ⟨v,e',rv⟩:=qqc hvs e
     exact .inr (.inl ⟨p,vs,i,v,rfl,ry,SqT.of hp,e',now h rv q⟩)
 case str z =>
   cases dy <;> first | exact False.elim q | skip
   rename_i i
   dsimp only at q
   cases e:atI z.cps.toList i with
   | none=>rw[e]at q;exact False.elim q
   | some c =>
     rw[e]at q
     obtain ⟨hz,q⟩:=Wp.iteF q
     exact .inr (.inr (.inl ⟨z,i,c,qb0 rx e1,ry,of_decide_eq_true hz,e,now h (d:=.str _) rfl q⟩))
 case dct ks ds =>
   dsimp only at q
   cases e:keyOf dy with
   | none=>rw[e]at q;exact False.elim q
   | some j =>
     rw[e]at q
     dsimp only at q
     cases e2:qfh ks ds j with
     | none=>rw[e2]at q;exact False.elim q
     | some d =>
       rw[e2]at q
       obtain ⟨p,vs,rfl,hp,hl,hvs⟩:=qdf h rx e1
       obtain ⟨v,e',rv⟩:=qlw hvs e2
       refine .inr (.inr (.inr ⟨p,v,rfl,?_,now h rv q⟩))
       have:y=kV j:=by cases dy <;> first | (cases e;exact ry) | (cases e;done)
       rw[this,← e']
       exact qqb hp
theorem r_ix {k:D→D→M D} (ot:IxT X k) (ha:PE X a (tD E f)) (hb:PE X b (tD E g)) (hs:qp4 b):PE X (.Subscript a b pos) (tD E fun Γ=>M.bind (f Γ) fun x=>M.bind (g Γ) fun y=>k x y):=by
 obtain ⟨r,ho,hk⟩:=ot
 refine PE.mono (qaah ho ha hb hs) fun σ H Q ⟨w,Γ,S,rel,hold,q⟩=> ?_
 exact qd (k:=fun x Γ=>M.bind (g Γ) fun y=>k x y) rel hold q fun dx x S1 w1 H1 l1 rel1 h1 rx q1=>qd (k:=fun y Γ=>k dx y) rel1 h1 q1 fun dy y S2 w2 H2 l2 rel2 h2 ry q2=>hk E w2 H2 S2 dx dy x y Q h2 (rx.mono l2) ry q2
noncomputable def tO (E:XW) (f:Env→M (Option Int)):TO:=fun σ H Q=>∃ w Γ S,Rel w H σ Γ∧qe w H S∧Wp E w H (f Γ S) fun o _ _ H'=>Q o H'
theorem PO.mono {e:Option Expr} {t t':TO} (h:PO X e t) (k:∀ σ H Q,t' σ H Q→t σ H Q):PO X e t':=fun pins s σ H Q I q=>h pins s σ H Q I (k σ H Q q)
noncomputable def asI:D→M (Option Int)
 | .int i=>M.pure (some i)
 | _=>M.fail
theorem q3c:PO X none (tO E fun _=>M.pure none):=PO.mono qv6 fun σ H Q ⟨w,Γ,S,rel,hold,q⟩=>q _ _ (Le.refl _ _) hold
theorem q3d (ha:PE X a (tD E f)):PO X (some a) (tO E fun Γ=>M.bind (f Γ) asI):=by
 refine PO.mono (qv7 ha) fun σ H Q ⟨w,Γ,S,rel,hold,q⟩=> ?_
 refine qd (k:=fun x _=>asI x) rel hold q fun dx x S1 w1 H1 l1 rel1 h1 rx q1=> ?_
 cases dx <;> first | exact False.elim q1 | skip
 exact⟨_,rx,q1 _ _ (Le.refl _ _) h1⟩
noncomputable def cutD (xs:List D) (lo hi:Option Int):List D:=(xs.drop (HT.sIx xs.length 0 lo)).take (HT.sIx xs.length xs.length hi - HT.sIx xs.length 0 lo)
theorem qwg {w:Wd} {H:Hp} {xs:List D} {vs:List V} (r:qb w H xs vs) (lo hi:Option Int):qb w H (cutD xs lo hi) (qku vs lo hi):=by
 unfold cutD qku
 rw[r.length]
 exact(r.drop _).take _
noncomputable def slM (new:Bool) (x:D) (lo hi:Option Int):M D:=match x with
 | .lst xs=>alloc new (.lst (cutD xs lo hi))
 | .tup xs=>if decide (¬ (HT.sIx xs.length 0 lo=0∧HT.sIx xs.length xs.length hi=xs.length))then M.pure (.tup (cutD xs lo hi))else M.fail
 | _=>M.fail
noncomputable def slD (new:Bool) (f:Env→M D) (lo hi:Env→M (Option Int)) (Γ:Env):M D:=M.bind (f Γ) fun x=>M.bind (lo Γ) fun l=>M.bind (hi Γ) fun h S=>slM new (look x S) l h S
theorem qwh {α:Type} {f:Env→M (Option Int)} {k:Option Int→Env→M α} {σ:St} {H:Hp} {w:Wd} {Γ:Env} {S:Sto} {P:α→Sto→Wd→Hp→Prop} {Q:Option Int→Hp→Prop} (r:Rel w H σ Γ) (h:qe w H S)
   (q:Wp E w H (M.bind (f Γ) (fun d=>k d Γ) S) P) (hk:∀ b S1 w1 H1,Le w H w1 H1→Rel w1 H1 σ Γ→qe w1 H1 S1→Wp E w1 H1 (k b Γ S1) P→Q b H1):tO E f σ H Q :=
 ⟨w,Γ,S,r,h,(Wp.bind q).mono fun b S1 w1 H1 l h1 q1=>hk b S1 w1 H1 l (r.mono l) h1 q1⟩
theorem r_sl {new:Bool} {lo hi:Option Expr} {fl fh:Env→M (Option Int)} {p2:Pos} (ha:PE X a (tD E f)) (hl:PO X lo (tO E fl)) (hh:PO X hi (tO E fh)):PE X (.Subscript a (.Slice lo hi none p2) pos) (tD E (slD new f fl fh)):=by
 refine PE.mono (qr5 (qv9.or q6k) ha hl hh) fun σ H Q ⟨w,Γ,S,rel,hold,q⟩=> ?_
 refine qd (k:=fun x Γ=>M.bind (fl Γ) fun l=>M.bind (fh Γ) fun h S=>slM new (look x S) l h S) rel hold q fun dx x S1 w1 H1 l1 rel1 h1 rx q1=> ?_
 refine qwh (k:=fun l Γ=>M.bind (fh Γ) fun h S=>slM new (look dx S) l h S) rel1 h1 q1 fun l S2 w2 H2 l2 rel2 h2 q2=> ?_
 refine qwh (k:=fun h Γ S=>slM new (look dx S) l h S) rel2 h2 q2 fun h S3 w3 H3 l3 rel3 h3 q3=> ?_
 have rx:=rx.mono (l2.trans l3)
 unfold slM at q3
 cases e1:look dx S3 <;> rw[e1]at q3 <;> first | exact False.elim q3 | skip
 case lst xs =>
   obtain ⟨p,vs,rfl,hp,hvs⟩:=qj h3 rx e1
   exact .inl ⟨p,vs,rfl,SqL.of hp,fun p' hp'=>qay h3 (qwg hvs _ _) q3 hp'⟩
 case tup xs =>
   obtain ⟨p,vs,rfl,hp,hvs⟩:=qai h3 rx e1
   obtain ⟨hz,q3⟩:=Wp.iteF q3
   exact .inr ⟨p,vs,rfl,SqT.of hp,by rw[← hvs.length];exact of_decide_eq_true hz,fun p' hp'=>qk7 h3 (qwg hvs _ _) q3 hp'⟩
noncomputable def qdh (X:Cx) (F:Value) (h:List D→M D):Prop:=∃ r:List V→Hp→VK→Prop,qal X F r∧∀ (E:XW) w H S ds vs Q,qe w H S→qb w H ds vs→Wp E w H (h ds S) (PV Q)→r vs H Q
variable {x:Str} {p:Pos} {e:Expr} {es:List Expr} {fs:Env→M (List D)} {k:List D→M D}
theorem qdv {id:String} (ot:qdh X (.builtin id) k) (hg:Gl X x) (hm:X.mg x=none) (hv:bootBuiltins x=some (.builtin id)) (ha:PA X (e::es) (tL E fs)) (hn:x ≠ "__name__") (hdb:(x==("__debug__":Str))=false)
   (he:starEach (e::es) X.env=(false,eval e X.env)::starEach es X.env) (hpl:(backTo pos (starEach es X.env)).any (·.1)=false):PE X (.Call (.Name x p) (e::es) [] pos) (tD E fun Γ=>M.bind (fs Γ) k):=by
 obtain ⟨r,ho,hk⟩:=ot
 refine PE.mono (qr4 ho hg hm hv ha hn hdb he hpl) fun σ H Q ⟨w,Γ,S,rel,hold,q⟩=> ?_
 exact qb1 (k:=fun ds _=>k ds) rel hold q fun ds vs S1 w1 H1 l1 rel1 h1 rv q1=>hk E w1 H1 S1 ds vs Q h1 rv q1
theorem qfi {T:String} (ot:qdh X (.type T) k) (hg:Gl X x) (hm:X.mg x=none) (hv:bootBuiltins x=some (.type T)) (ha:PA X (e::es) (tL E fs)) (hn:x ≠ "__name__") (hdb:(x==("__debug__":Str))=false)
   (he:starEach (e::es) X.env=(false,eval e X.env)::starEach es X.env) (hpl:(backTo pos (starEach es X.env)).any (·.1)=false):PE X (.Call (.Name x p) (e::es) [] pos) (tD E fun Γ=>M.bind (fs Γ) k):=by
 obtain ⟨r,ho,hk⟩:=ot
 refine PE.mono (qit ho hg hm hv ha hn hdb he hpl) fun σ H Q ⟨w,Γ,S,rel,hold,q⟩=> ?_
 exact qb1 (k:=fun ds _=>k ds) rel hold q fun ds vs S1 w1 H1 l1 rel1 h1 rv q1=>hk E w1 H1 S1 ds vs Q h1 rv q1
theorem qb.nil_ {w:Wd} {H:Hp} {vs:List V} (r:qb w H [] vs):vs=[]:=r
theorem qb.one_ {w:Wd} {H:Hp} {d:D} {vs:List V} (r:qb w H [d] vs):∃ v,vs=[v]∧Rep w H d v:=by
 obtain ⟨v,u,e,h,t⟩:=r
 cases (show u=[] from t)
 exact⟨v,e,h⟩
theorem qb.two_ {w:Wd} {H:Hp} {d d':D} {vs:List V} (r:qb w H [d,d'] vs):∃ v v',vs=[v,v']∧Rep w H d v∧Rep w H d' v':=by
 obtain ⟨v,u,e,h,t⟩:=r
 obtain ⟨v',e',h'⟩:=t.one_
 subst e'
 exact⟨v,v',e,h,h'⟩
noncomputable def qsl:List D→M D
 | [d]=>fun S=>match look d S with
   | .lst xs=>M.pure (.int xs.length) S
   | .tup xs=>M.pure (.int xs.length) S
   | .dct ks _=>M.pure (.int ks.length) S
   | .str z=>(if sizeOk z.length then M.pure (.int z.length)else M.fail) S
   | _=>M.fail S
 | _=>M.fail
theorem qx3:qal X (.builtin "len") (fun xs H Q=>∃ a kvs,xs=[V.ref a]∧Rd H a (.dK kvs)∧Q (.int kvs.length) H):=by
 intro pins s σ H xs us Q I r h
 obtain ⟨a,kvs,rfl,ha,q⟩:=h
 obtain ⟨u,rfl,ru⟩:=vals1 r
 cases ru
 exact qaas I ha fun t s' I'=>⟨.int kvs.length,H,I',⟨t,rfl⟩,q⟩
theorem q7s:qdh X (.builtin "len") qsl:=by
 refine⟨_,qp6.or (qx3.or qp7),fun E w H S ds vs Q h rv q=> ?_⟩
 unfold qsl at q
 split at q
 case h_2=>exact False.elim q
 case h_1 d =>
   obtain ⟨v,rfl,r⟩:=rv.one_
   cases e1:look d S <;> rw[e1]at q <;> first | exact False.elim q | skip
   case lst xs =>
     obtain ⟨p,vs,rfl,hp,hvs⟩:=qj h r e1
     exact .inl ⟨p,vs,rfl,.inl (SqL.of hp),by rw[← hvs.length];exact now h (d:=.int _) rfl q⟩
   case tup xs =>
     obtain ⟨p,vs,rfl,hp,hvs⟩:=qai h r e1
     exact .inl ⟨p,vs,rfl,.inr (SqT.of hp),by rw[← hvs.length];exact now h (d:=.int _) rfl q⟩
   case dct ks xs =>
     obtain ⟨p,vs,rfl,hp,hl,hvs⟩:=qdf h r e1
     refine .inr (.inl ⟨p,_,rfl,hp,?_⟩)
     rw[List.length_zip,← hvs.length,← hl,Nat.min_self]
     exact now h (d:=.int _) rfl q
   case str z =>
     obtain ⟨hz,q⟩:=Wp.iteF q
     exact .inr (.inr ⟨z,by rw[qb0 r e1],of_decide_eq_true hz,now h (d:=.int _) rfl q⟩)
noncomputable def intsOf:List D→Option (List Int)
 | []=>some []
 | .int i::ds=>(intsOf ds).map (i::·)
 | _=>none
noncomputable def qa7:List D→Option (List Bool)
 | []=>some []
 | .bl i::ds=>(qa7 ds).map (i::·)
 | _=>none
noncomputable def strsOf:List D→Option (List Str)
 | []=>some []
 | .str i::ds=>(strsOf ds).map (i::·)
 | _=>none
theorem qbr {w:Wd} {H:Hp}:∀ {ds:List D} {vs:List V} {ns:List Int},intsOf ds=some ns→qb w H ds vs→vs=ns.map V.int
 | [],_,_,e,r=>by cases e;exact r
 | .int i::ds,_,_,e,⟨v,u,e1,h,t⟩=>by
   simp only [intsOf,Option.map_eq_some_iff]at e
   obtain ⟨ns,e2,rfl⟩:=e
   rw[e1,qbr e2 t,show v=.int i from h]
   rfl
 | .non::_,_,_,e,_=>by simp [intsOf]at e
 | .bl _::_,_,_,e,_=>by simp [intsOf]at e
 | .str _::_,_,_,e,_=>by simp [intsOf]at e
 | .ty _::_,_,_,e,_=>by simp [intsOf]at e
 | .at_ _::_,_,_,e,_=>by simp [intsOf]at e
 | .ref _::_,_,_,e,_=>by simp [intsOf]at e
 | .lst _::_,_,_,e,_=>by simp [intsOf]at e
 | .tup _::_,_,_,e,_=>by simp [intsOf]at e
 | .dct _ _::_,_,_,e,_=>by simp [intsOf]at e
 | .obj _ _ _::_,_,_,e,_=>by simp [intsOf]at e
theorem qi3 {w:Wd} {H:Hp}:∀ {ds:List D} {vs:List V} {ns:List Bool},qa7 ds=some ns→qb w H ds vs→vs=ns.map V.bl
 | [],_,_,e,r=>by cases e;exact r
 | .bl i::ds,_,_,e,⟨v,u,e1,h,t⟩=>by
   simp only [qa7,Option.map_eq_some_iff]at e
   obtain ⟨ns,e2,rfl⟩:=e
   rw[e1,qi3 e2 t,show v=.bl i from h]
   rfl
 | .non::_,_,_,e,_=>by simp [qa7]at e
 | .int _::_,_,_,e,_=>by simp [qa7]at e
 | .str _::_,_,_,e,_=>by simp [qa7]at e
 | .ty _::_,_,_,e,_=>by simp [qa7]at e
 | .at_ _::_,_,_,e,_=>by simp [qa7]at e
 | .ref _::_,_,_,e,_=>by simp [qa7]at e
 | .lst _::_,_,_,e,_=>by simp [qa7]at e
 | .tup _::_,_,_,e,_=>by simp [qa7]at e
 | .dct _ _::_,_,_,e,_=>by simp [qa7]at e
 | .obj _ _ _::_,_,_,e,_=>by simp [qa7]at e
theorem qlx {w:Wd} {H:Hp}:∀ {ds:List D} {vs:List V} {ns:List Str},strsOf ds=some ns→qb w H ds vs→vs=ns.map V.str
 | [],_,_,e,r=>by cases e;exact r
 | .str i::ds,_,_,e,⟨v,u,e1,h,t⟩=>by
   simp only [strsOf,Option.map_eq_some_iff]at e
   obtain ⟨ns,e2,rfl⟩:=e
   rw[e1,qlx e2 t,show v=.str i from h]
   rfl
 | .non::_,_,_,e,_=>by simp [strsOf]at e
 | .int _::_,_,_,e,_=>by simp [strsOf]at e
 | .bl _::_,_,_,e,_=>by simp [strsOf]at e
 | .ty _::_,_,_,e,_=>by simp [strsOf]at e
 | .at_ _::_,_,_,e,_=>by simp [strsOf]at e
 | .ref _::_,_,_,e,_=>by simp [strsOf]at e
 | .lst _::_,_,_,e,_=>by simp [strsOf]at e
 | .tup _::_,_,_,e,_=>by simp [strsOf]at e
 | .dct _ _::_,_,_,e,_=>by simp [strsOf]at e
 | .obj _ _ _::_,_,_,e,_=>by simp [strsOf]at e
noncomputable def qb2 (f:List D→M D):List D→M D
 | [d]=>fun S=>match look d S with
   | .lst xs=>f xs S
   | _=>M.fail S
 | _=>M.fail
theorem qly {w:Wd} {H:Hp} {S:Sto} {f:List D→M D} {ds:List D} {vs:List V} {Q:VK} (h:qe w H S) (rv:qb w H ds vs) (q:Wp E w H (qb2 f ds S) (PV Q)):∃ p us xs,vs=[.ref p]∧H p=some (.lst us)∧qb w H xs us∧Wp E w H (f xs S) (PV Q):=by
 unfold qb2 at q
 split at q
 case h_2=>exact False.elim q
 case h_1 d =>
   obtain ⟨v,rfl,r⟩:=rv.one_
   cases e1:look d S <;> rw[e1]at q <;> first | exact False.elim q | skip
   obtain ⟨p,vs,rfl,hp,hvs⟩:=qj h r e1
   exact⟨p,vs,_,rfl,hp,hvs,q⟩
noncomputable def qlz (xs:List D):M D:=match intsOf xs with
 | some ns=>M.pure (.int ns.sum)
 | none=>M.fail
noncomputable def qsm (xs:List D):M D:=match qa7 xs with
 | some ns=>M.pure (.bl (ns.all id))
 | none=>M.fail
noncomputable def qx4 (xs:List D):M D:=match qa7 xs with
 | some ns=>M.pure (.bl (ns.any id))
 | none=>M.fail
theorem q7t (hc:X.calm=true):qdh X (.builtin "sum") (qb2 qlz):=by
 refine⟨_,qzu hc,fun E w H S ds vs Q h rv q=> ?_⟩
 obtain ⟨p,us,xs,rfl,hp,r,q⟩:=qly h rv q
 unfold qlz at q
 cases e:intsOf xs with
 | none=>rw[e]at q;exact False.elim q
 | some ns=>rw[e]at q;exact⟨p,ns,rfl,by rw[← qbr e r];exact SqL.of hp,now h (d:=.int _) rfl q⟩
theorem q7u (hc:X.calm=true):qdh X (.builtin "all") (qb2 qsm):=by
 refine⟨_,qzs hc,fun E w H S ds vs Q h rv q=> ?_⟩
 obtain ⟨p,us,xs,rfl,hp,r,q⟩:=qly h rv q
 unfold qsm at q
 cases e:qa7 xs with
 | none=>rw[e]at q;exact False.elim q
 | some ns=>rw[e]at q;exact⟨p,ns,rfl,by rw[← qi3 e r];exact SqL.of hp,now h (d:=.bl _) rfl q⟩
theorem q7v (hc:X.calm=true):qdh X (.builtin "any") (qb2 qx4):=by
 refine⟨_,qzt hc,fun E w H S ds vs Q h rv q=> ?_⟩
 obtain ⟨p,us,xs,rfl,hp,r,q⟩:=qly h rv q
 unfold qx4 at q
 cases e:qa7 xs with
 | none=>rw[e]at q;exact False.elim q
 | some ns=>rw[e]at q;exact⟨p,ns,rfl,by rw[← qi3 e r];exact SqL.of hp,now h (d:=.bl _) rfl q⟩
noncomputable def qgb:List Int→Int
 | []=>0
 | [a]=>a
 | a::r=>min a (qgb r)
theorem ql0:∀ {ns:List Int},ns ≠ []→qgb ns ∈ ns∧∀ a ∈ ns,qgb ns≤a
 | [],h=>absurd rfl h
 | [a],_=>by simp [qgb]
 | a ::b::r,_=>by
   have:=ql0 (ns:=b::r) (by simp)
   rw[qgb]
   · refine⟨?_,fun x hx=> ?_⟩
     · by_cases h:a≤qgb (b::r)
       · rw[Int.min_eq_left h];exact List.mem_cons_self
       · rw[Int.min_eq_right (by omega)];exact List.mem_cons_of_mem _ this.1
     · rcases List.mem_cons.mp hx with rfl | hx
       · exact Int.min_le_left _ _
       · exact Int.le_trans (Int.min_le_right _ _) (this.2 x hx)
   · simp
noncomputable def minD (ds:List D):M D:=match ds with
 | [.int i,.int j]=>M.pure (.int (if j < i then j else i))
 | [d]=>fun S=>match look d S with
   | .lst xs=>match intsOf xs with
     | some ns=>(if !ns.isEmpty then M.pure (.int (qgb ns))else M.fail) S
     | none=>M.fail S
   | _=>M.fail S
 | _=>M.fail
theorem q7w (hc:X.calm=true):qdh X (.builtin "min") minD:=by
 refine⟨_,(qxk hc).or (qxx hc),fun E w H S ds vs Q h rv q=> ?_⟩
 unfold minD at q
 split at q
 case h_1 i j =>
   obtain ⟨v,v',rfl,r1,r2⟩:=rv.two_
   exact .inl ⟨i,j,by rw[show v=.int i from r1,show v'=.int j from r2],now h (d:=.int _) rfl q⟩
 case h_2 d =>
   obtain ⟨v,rfl,r⟩:=rv.one_
   dsimp only at q
   cases e1:look d S <;> rw[e1]at q <;> first | exact False.elim q | skip
   rename_i xs
   dsimp only at q
   cases e:intsOf xs with
   | none=>rw[e]at q;exact False.elim q
   | some ns =>
     rw[e]at q
     obtain ⟨hz,q⟩:=Wp.iteF q
     obtain ⟨p,us,rfl,hp,hvs⟩:=qj h r e1
     have hne:ns ≠ []:=by rintro rfl;simp at hz
     refine .inr ⟨p,ns,rfl,by rw[← qbr e hvs];exact SqL.of hp,by cases ns <;> first | exact absurd rfl hne | simp,fun m hm hle=> ?_⟩
     have:=ql0 hne
     have:m=qgb ns:=Int.le_antisymm (hle _ this.1) (this.2 _ hm)
     rw[this]
     exact now h (d:=.int _) rfl q
 case h_3=>exact False.elim q
noncomputable def maxD (ds:List D):M D:=match ds with
 | [.int i,.int j]=>M.pure (.int (if j > i then j else i))
 | _=>M.fail
theorem q7x (hc:X.calm=true):qdh X (.builtin "max") maxD:=by
 refine⟨_,qxj hc,fun E w H S ds vs Q h rv q=> ?_⟩
 unfold maxD at q
 split at q
 case h_1 i j =>
   obtain ⟨v,v',rfl,r1,r2⟩:=rv.two_
   exact⟨i,j,by rw[show v=.int i from r1,show v'=.int j from r2],now h (d:=.int _) rfl q⟩
 case h_2=>exact False.elim q
noncomputable def qhq (new:Bool):List D→M D
 | [d]=>fun S=>match look d S with
   | .lst xs=>alloc new (.lst xs) S
   | .tup xs=>alloc new (.lst xs) S
   | _=>M.fail S
 | _=>M.fail
theorem q3e {new:Bool}:qdh X (.type "list") (qhq new):=by
 refine⟨_,qhi,fun E w H S ds vs Q h rv q=> ?_⟩
 unfold qhq at q
 split at q
 case h_2=>exact False.elim q
 case h_1 d =>
   obtain ⟨v,rfl,r⟩:=rv.one_
   cases e1:look d S <;> rw[e1]at q <;> first | exact False.elim q | skip
   case lst xs =>
     obtain ⟨p,vs,rfl,hp,hvs⟩:=qj h r e1
     exact⟨p,vs,rfl,.inl (SqL.of hp),fun l hl=>qay h hvs q hl⟩
   case tup xs =>
     obtain ⟨p,vs,rfl,hp,hvs⟩:=qai h r e1
     exact⟨p,vs,rfl,.inr (SqT.of hp),fun l hl=>qay h hvs q hl⟩
noncomputable def qx5:List D→M D
 | [d]=>fun S=>match look d S with
   | .lst xs=>M.pure (.tup xs) S
   | .tup xs=>M.pure (.tup xs) S
   | _=>M.fail S
 | _=>M.fail
theorem q7y:qdh X (.type "tuple") qx5:=by
 refine⟨_,qnq,fun E w H S ds vs Q h rv q=> ?_⟩
 unfold qx5 at q
 split at q
 case h_2=>exact False.elim q
 case h_1 d =>
   obtain ⟨v,rfl,r⟩:=rv.one_
   cases e1:look d S <;> rw[e1]at q <;> first | exact False.elim q | skip
   case lst xs =>
     obtain ⟨p,vs,rfl,hp,hvs⟩:=qj h r e1
     exact⟨p,vs,rfl,.inl ⟨SqL.of hp,fun l hl=>qk7 h hvs q hl⟩⟩
   case tup xs =>
     obtain ⟨p,vs,rfl,hp,hvs⟩:=qai h r e1
     have:look d S=d:=by cases d <;> first | rfl | (unfold look at e1;dsimp only at e1;split at e1 <;> cases e1)
     rw[this]at e1
     exact⟨p,vs,rfl,.inr ⟨SqT.of hp,now h (by rw[← e1];exact r) q⟩⟩
noncomputable def intD:List D→M D
 | [.int i]=>M.pure (.int i)
 | [.bl b]=>M.pure (.int (if b then 1 else 0))
 | _=>M.fail
theorem q7z:qdh X (.type "int") intD:=by
 refine⟨_,qxl,fun E w H S ds vs Q h rv q=> ?_⟩
 unfold intD at q
 split at q
 case h_1 i=>obtain ⟨v,rfl,r⟩:=rv.one_;exact .inl ⟨i,by rw[show v=.int i from r],now h (d:=.int _) rfl q⟩
 case h_2 b=>obtain ⟨v,rfl,r⟩:=rv.one_;exact .inr ⟨b,by rw[show v=.bl b from r],now h (d:=.int _) rfl q⟩
 case h_3=>exact False.elim q
noncomputable def qx6:List D→M D
 | [.int i]=>if decide (i.natAbs.log2 < 1920)then M.pure (.str (toString i))else M.fail
 | _=>M.fail
theorem q70:qdh X (.type "str") qx6:=by
 refine⟨_,qp3,fun E w H S ds vs Q h rv q=> ?_⟩
 unfold qx6 at q
 split at q
 case h_1 i =>
   obtain ⟨hz,q⟩:=Wp.iteF q
   obtain ⟨v,rfl,r⟩:=rv.one_;exact⟨i,by rw[show v=.int i from r],of_decide_eq_true hz,now h (d:=.str _) rfl q⟩
 case h_2=>exact False.elim q
end
inductive Fl where
 | nx | rt (d:D) | bk | ct
noncomputable abbrev MS:=Env→M (Fl × Env)
noncomputable def qcj (D:Ends):Fl × Env→Sto→Wd→Hp→Prop:=fun r _ w H=>match r.1 with
 | .nx=>∀ σ,Rel w H σ r.2→D.nx σ H
 | .rt d=>∀ v,Rep w H d v→D.rt v H
 | .bk=>∀ σ,Rel w H σ r.2→D.bk σ H
 | .ct=>∀ σ,Rel w H σ r.2→D.ct σ H
noncomputable def tS (E:XW) (g:MS):TS:=fun D σ H=>∃ w Γ S,Rel w H σ Γ∧qe w H S∧Wp E w H (g Γ S) (qcj D)
noncomputable def But (T:List Nat) (σ σ':St):Prop:=∀ i,i ∉ T→σ'[i]? =σ[i]?
theorem But.refl (T:List Nat) (σ:St):But T σ σ:=fun _ _=>rfl
noncomputable def tG (E:XW) (T:List Nat) (h:D→Env→M Env):TG:=fun v σ H Q=>∃ w d Γ S,Rel w H σ Γ∧qe w H S∧Rep w H d v∧Wp E w H (h d Γ S) fun Γ' _ w' H'=>∀ σ',Rel w' H' σ' Γ'→But T σ σ'→Q σ' H'
noncomputable def tGs (E:XW) (T:List Nat) (h:List D→Env→M Env):TGs:=fun vs σ H Q=>∃ w ds Γ S,Rel w H σ Γ∧qe w H S∧qb w H ds vs∧Wp E w H (h ds Γ S) fun Γ' _ w' H'=>∀ σ',Rel w' H' σ' Γ'→But T σ σ'→Q σ' H'
section
variable {X:Cx} {E:XW} {a b c e:Expr} {f g h':Env→M D} {pos:Pos} {s1 s2:MS} {st:Stmt} {rest:List Stmt}
theorem PG.mono {tg:Expr} {t t':TG} (h:PG X tg t) (k:∀ v σ H Q,t' v σ H Q→t v σ H Q):PG X tg t':=fun pins s σ H v u Q I r q=>h pins s σ H v u Q I r (k v σ H Q q)
theorem PGs.mono {tg:List Expr} {t t':TGs} (h:PGs X tg t) (k:∀ v σ H Q,t' v σ H Q→t v σ H Q):PGs X tg t':=fun pins s σ H v u Q I r q=>h pins s σ H v u Q I r (k v σ H Q q)
noncomputable def qwi:MS:=fun Γ=>M.pure (.nx,Γ)
noncomputable def seqS (g h:MS):MS:=fun Γ=>M.bind (g Γ) fun r=>match r.1 with
 | .nx=>h r.2
 | _=>M.pure r
theorem qaa9:PSs X [] (tS E qwi):=PSs.mono q2b fun D σ H ⟨w,Γ,S,rel,hold,q⟩=>q _ _ (Le.refl _ _) hold σ rel
theorem q71 (h1:PS X st (tS E s1)) (h2:PSs X rest (tS E s2)):PSs X (st::rest) (tS E (seqS s1 s2)):=by
 refine PSs.mono (qry h1 h2) fun D σ H ⟨w,Γ,S,rel,hold,q⟩=> ?_
 refine⟨w,Γ,S,rel,hold,(Wp.bind q).mono fun r S1 w1 H1 l1 h1 q1=> ?_⟩
 obtain ⟨fl,Γ1⟩:=r
 cases fl with
 | nx=>exact fun σ' rel'=>⟨w1,Γ1,S1,rel',h1,q1⟩
 | rt d=>exact fun v rv=>(q1 _ _ (Le.refl _ _) h1:qcj D (.rt d,Γ1) S1 w1 H1) v rv
 | bk=>exact fun σ' rel'=>(q1 _ _ (Le.refl _ _) h1:qcj D (.bk,Γ1) S1 w1 H1) σ' rel'
 | ct=>exact fun σ' rel'=>(q1 _ _ (Le.refl _ _) h1:qcj D (.ct,Γ1) S1 w1 H1) σ' rel'
theorem q72:PS X (.Pass pos) (tS E qwi):=PS.mono q2d fun D σ H ⟨w,Γ,S,rel,hold,q⟩=>q _ _ (Le.refl _ _) hold σ rel
theorem q3f:PS X (.Break pos) (tS E fun Γ=>M.pure (.bk,Γ)):=PS.mono qy0 fun D σ H ⟨w,Γ,S,rel,hold,q⟩=>(q _ _ (Le.refl _ _) hold:qcj D (.bk,Γ) S w H) σ rel
theorem q73:PS X (.Continue pos) (tS E fun Γ=>M.pure (.ct,Γ)):=PS.mono qrz fun D σ H ⟨w,Γ,S,rel,hold,q⟩=>(q _ _ (Le.refl _ _) hold:qcj D (.ct,Γ) S w H) σ rel
theorem q74 (he:PE X e (tD E f)) (hs:swapsWith e none pos.line X.env=pure false):PS X (.Expr e pos) (tS E fun Γ=>M.bind (f Γ) fun _=>M.pure (.nx,Γ)):=by
 refine PS.mono (q2e he hs) fun D σ H ⟨w,Γ,S,rel,hold,q⟩=> ?_
 exact qd (k:=fun _ Γ=>M.pure (Fl.nx,Γ)) rel hold q fun dx x S1 w1 H1 l1 rel1 h1 rx q1=>(q1 _ _ (Le.refl _ _) h1:qcj D (.nx,Γ) S1 w1 H1) σ rel1
theorem qaba (he:PE X e (tD E f)):PS X (.Return (some e) pos) (tS E fun Γ=>M.bind (f Γ) fun d=>M.pure (.rt d,Γ)):=by
 refine PS.mono (qy1 he) fun D σ H ⟨w,Γ,S,rel,hold,q⟩=> ?_
 exact qd (k:=fun d Γ=>M.pure (Fl.rt d,Γ)) rel hold q fun dx x S1 w1 H1 l1 rel1 h1 rx q1=>(q1 _ _ (Le.refl _ _) h1:qcj D (.rt dx,Γ) S1 w1 H1) x rx
theorem q75:PS X (.Return none pos) (tS E fun Γ=>M.pure (.rt .non,Γ)):=PS.mono q2f fun D σ H ⟨w,Γ,S,rel,hold,q⟩=>(q _ _ (Le.refl _ _) hold:qcj D (.rt .non,Γ) S w H) .non rfl
noncomputable def ifS (c:Env→M Bool) (g h:MS):MS:=fun Γ=>M.bind (c Γ) fun b=>if b=true then g Γ else h Γ
theorem s_if {fc:Env→M Bool} {x y:List Stmt} (hc:PT X c (tB E fc)) (h1:PSs X x (tS E s1)) (h2:PSs X y (tS E s2)):PS X (.If c x y pos) (tS E (ifS fc s1 s2)):=by
 refine PS.mono (q9v hc h1 h2) fun D σ H ⟨w,Γ,S,rel,hold,q⟩=> ?_
 refine qc3 (k:=fun b Γ=>if b=true then s1 Γ else s2 Γ) rel hold q fun bb S1 w1 H1 l1 rel1 h1 q1=> ?_
 cases bb with
 | true=>exact⟨w1,Γ,S1,rel1,h1,q1⟩
 | false=>exact⟨w1,Γ,S1,rel1,h1,q1⟩
noncomputable def q76 (i:Nat) (d:D) (Γ:Env):M Env:=M.pure (Γ.set i (some d))
theorem q77 {i:Nat} {x:Str} (hN:X.N.Nodup) (hi:X.N[i]? =some x) (hx:Loc X.env.scope x) (hf:X.fn x=true∨X.env.scope.names.lookup x=some .local):PG X (.Name x pos) (tG E [i] (q76 i)):=by
 refine PG.mono (q2g hN hi hx hf) fun v σ H Q ⟨w,d,Γ,S,rel,hold,rv,q⟩=> ?_
 exact q _ _ (Le.refl _ _) hold _ (rel.set rv) fun j hj=>List.getElem?_set_ne (fun e=>hj (by simp [e]))
noncomputable def qz8:List D→Env→M Env
 | [],Γ=>M.pure Γ
 | _,_=>M.fail
noncomputable def qqd (h:D→Env→M Env) (r:List D→Env→M Env):List D→Env→M Env
 | d::ds,Γ=>M.bind (h d Γ) fun Γ'=>r ds Γ'
 | [],_=>M.fail
theorem qabb:PGs X [] (tGs E [] qz8):=by
 refine PGs.mono q2h fun vs σ H Q ⟨w,ds,Γ,S,rel,hold,rv,q⟩=> ?_
 cases ds with
 | nil=>exact⟨rv,q _ _ (Le.refl _ _) hold _ rel (But.refl _ _)⟩
 | cons d ds=>exact False.elim q
theorem q78 {es:List Expr} {T1 T2:List Nat} {hd:D→Env→M Env} {r:List D→Env→M Env} (h1:PG X e (tG E T1 hd)) (h2:PGs X es (tGs E T2 r)) (hs:(assignEach (e::es) X.env).map (·.2)=assign e X.env::(assignEach es X.env).map (·.2)):PGs X (e::es) (tGs E (T1++T2) (qqd hd r)):=by
 refine PGs.mono (qy2 h1 h2 hs) fun vs σ H Q ⟨w,ds,Γ,S,rel,hold,rv,q⟩=> ?_
 cases ds with
 | nil=>exact False.elim q
 | cons d ds =>
   obtain ⟨v,u,rfl,rd,t⟩:=rv
   exact⟨v,u,rfl,w,d,Γ,S,rel,hold,rd,(Wp.bind q).mono fun Γ1 S1 w1 H1 l1 h1 q1 σ1 rel1 b1=>⟨w1,ds,Γ1,S1,rel1,h1,t.mono l1,q1.mono fun Γ2 S2 w2 H2 _ _ q2 σ2 rel2 b2=>q2 σ2 rel2 fun j hj=>(b2 j (fun z=>hj (List.mem_append_right _ z))).trans (b1 j fun z=>hj (List.mem_append_left _ z))⟩⟩
noncomputable def qu5 (n:Nat) (r:List D→Env→M Env) (d:D) (Γ:Env):M Env:=fun S=>match look d S with
 | .tup ds=>if ds.length=n then r ds Γ S else .no
 | .lst ds=>if ds.length=n then r ds Γ S else .no
 | _=>.no
theorem PG.or {tg:Expr} {t t':TG} (h:PG X tg t) (h':PG X tg t'):PG X tg (fun v σ H Q=>t v σ H Q∨t' v σ H Q):=fun pins s σ H v u Q I r q=>q.elim (h pins s σ H v u Q I r) (h' pins s σ H v u Q I r)
theorem qabc {es:List Expr} {k n:Nat} {T:List Nat} {r:List D→Env→M Env} (hc:X.calm=true) (h:PGs X es (tGs E T r)) (hn:(assignEach es X.env).length=n) (hst:(assignEach es X.env).findIdx? (·.1)=none):PG X (.Tuple es k pos) (tG E T (qu5 n r)):=by
 refine PG.mono (PG.or (q5y hc h hn hst) (q26 hc h hn hst)) fun v σ H Q ⟨w,d,Γ,S,rel,hold,rv,q⟩=> ?_
 unfold qu5 at q
 cases e1:look d S <;> rw[e1]at q <;> first | exact False.elim q | skip
 case tup ds =>
   dsimp only at q
   by_cases hl:ds.length=n
   · rw[if_pos hl]at q
     obtain ⟨p,vs,rfl,hp,hvs⟩:=qai hold rv e1
     exact .inl ⟨p,vs,rfl,SqT.of hp,by rw[← hvs.length];exact hl,w,ds,Γ,S,rel,hold,hvs,q⟩
   · rw[if_neg hl]at q;exact False.elim q
 case lst ds =>
   dsimp only at q
   by_cases hl:ds.length=n
   · rw[if_pos hl]at q
     obtain ⟨p,vs,rfl,hp,hvs⟩:=qj hold rv e1
     exact .inr ⟨p,vs,rfl,SqL.of hp,by rw[← hvs.length];exact hl,w,ds,Γ,S,rel,hold,hvs,q⟩
   · rw[if_neg hl]at q;exact False.elim q
theorem qabd {tg:Expr} {T:List Nat} {hd:D→Env→M Env} (he:PE X e (tD E f)) (hg:PG X tg (tG E T hd)) (hs:swapsWithSole [tg] e pos.line X.env=pure false) (hw:swappedStores [tg] e X.env=pure none) (h1:(assignEach [tg] X.env).map (·.2)=[assign tg X.env]):PS X (.Assign [tg] e pos) (tS E fun Γ=>M.bind (f Γ) fun d=>M.bind (hd d Γ) fun Γ'=>M.pure (.nx,Γ')):=by
 refine PS.mono (q50 he hg hs hw h1) fun D σ H ⟨w,Γ,S,rel,hold,q⟩=> ?_
 refine qd (k:=fun d Γ=>M.bind (hd d Γ) fun Γ'=>M.pure (Fl.nx,Γ')) rel hold q fun dx x S1 w1 H1 l1 rel1 h1 rx q1=> ?_
 exact⟨w1,dx,Γ,S1,rel1,h1,rx,(Wp.bind q1).mono fun Γ2 S2 w2 H2 l2 h2 q2 σ' rel' _=>(q2 _ _ (Le.refl _ _) h2:qcj D (.nx,Γ2) S2 w2 H2) σ' rel'⟩
theorem qz9 {i:Nat} {x:Str} {pos':Pos} (hN:X.N.Nodup) (hi:X.N[i]? =some x) (hx:Loc X.env.scope x) (he:PE X e (tD E f)) (hs:swapsWith e (some (.Name x pos')) pos.line X.env=pure false) (hf:X.fn x=true∨X.env.scope.names.lookup x=some .local) :
   PS X (.Assign [.Name x pos'] e pos) (tS E fun Γ=>M.bind (f Γ) fun d=>M.pure (.nx,Γ.set i (some d))):=by
 refine PS.mono (qy3 hN hi hx he hs hf) fun D σ H ⟨w,Γ,S,rel,hold,q⟩=> ?_
 exact qd (k:=fun d Γ=>M.pure (Fl.nx,Γ.set i (some d))) rel hold q fun dx x S1 w1 H1 l1 rel1 h1 rx q1=>(q1 _ _ (Le.refl _ _) h1:qcj D (.nx,_) S1 w1 H1) _ (rel1.set rx)
noncomputable def parS (i j:Nat) (fs:Env→M (List D)):MS:=fun Γ=>M.bind (fs Γ) fun ds=>match ds with
 | [x,y]=>M.pure (.nx,(Γ.set i (some x)).set j (some y))
 | _=>M.fail
theorem qabf {i j:Nat} {x y:Str} {fs:Env→M (List D)} {px py pt:Pos} {kt k2:Nat} {pt2:Pos} (hc:X.calm=true) (hN:X.N.Nodup) (hi:X.N[i]? =some x) (hj:X.N[j]? =some y) (hij:i ≠ j)
   (hx:X.env.scope.names.lookup x=some .local) (hy:X.env.scope.names.lookup y=some .local) (ha:PA X [a,b] (tL E fs))
   (hw:swappedStores [.Tuple [.Name x px,.Name y py] kt pt] (.Tuple [a,b] k2 pt2) X.env=pure (some [x,y]))
   (hs:swapsWithSole [.Tuple [.Name x px,.Name y py] kt pt] (.Tuple [a,b] k2 pt2) pos.line X.env=pure false) :
   PS X (.Assign [.Tuple [.Name x px,.Name y py] kt pt] (.Tuple [a,b] k2 pt2) pos) (tS E (parS i j fs)):=by
 refine PS.mono (q51 hc hN hi hj hij hx hy ha hw hs) fun D σ H ⟨w,Γ,S,rel,hold,q⟩=> ?_
 refine qb1 (k:=fun ds Γ=>match ds with | [x,y]=>M.pure (Fl.nx,(Γ.set i (some x)).set j (some y)) | _=>M.fail) rel hold q fun ds vs S1 w1 H1 l1 rel1 h1 rv q1=> ?_
 match ds,rv,q1 with
 | [],_,q1=>exact False.elim q1
 | [_],_,q1=>exact False.elim q1
 | _::_::_::_,_,q1=>exact False.elim q1
 | [d,d'],rv,q1 =>
   obtain ⟨v,v',rfl,r1,r2⟩:=rv.two_
   exact⟨v,v',rfl,(q1 _ _ (Le.refl _ _) h1:qcj D (.nx,_) S1 w1 H1) _ ((rel1.set r1).set r2)⟩
noncomputable def qbl (ks:List Key) (k:Key):List Key:=if qe6 ks k then ks else ks++[k]
noncomputable def qd5 {α:Type} (k:Key) (v:α):List Key→List α→List α
 | j::ks,x::xs=>(if j=k then v else x)::qd5 k v ks xs
 | _,_=>[]
noncomputable def qaz {α:Type} (ks:List Key) (xs:List α) (k:Key) (v:α):List α:=if qe6 ks k then qd5 k v ks xs else xs++[v]
theorem qi4 {α:Type} (k:Key) (v:α):∀ {ks:List Key} {xs:List α},ks.length=xs.length→(qd5 k v ks xs).length=ks.length
 | [],[],_=>rfl
 | [],_::_,h=>by simp at h
 | _::_,[],h=>by simp at h
 | j::ks,x::xs,h=>by simp [qd5,qi4 k v (ks:=ks) (xs:=xs) (by simpa using h)]
theorem qx7 {α:Type} (k:Key) (v:α) {ks:List Key} {xs:List α} (h:ks.length=xs.length):(qbl ks k).length=(qaz ks xs k v).length:=by
 unfold qbl qaz
 cases qe6 ks k with
 | true=>simp [qi4 k v h]
 | false=>simp [h]
theorem qo7 (k:Key) (v:V):∀ {ks:List Key} {vs:List V},ks.length=vs.length→((ks.zip vs).map fun kv=>if kv.1=k then (kv.1,v)else kv)=ks.zip (qd5 k v ks vs)
 | [],[],_=>rfl
 | [],_::_,h=>by simp at h
 | _::_,[],h=>by simp at h
 | j::ks,x::xs,h=>by
   rw[List.zip_cons_cons,List.map_cons,qo7 k v (by simpa using h),qd5,List.zip_cons_cons]
   by_cases e:j=k <;> simp [e]
theorem qwj (k:Key):∀ {ks:List Key} {vs:List V},ks.length=vs.length→((ks.zip vs).any fun kv=>decide (kv.1=k))=qe6 ks k
 | [],[],_=>rfl
 | [],_::_,h=>by simp at h
 | _::_,[],h=>by simp at h
 | j::ks,x::xs,h=>by
   have:=qwj k (ks:=ks) (vs:=xs) (by simpa using h)
   unfold qe6 at this ⊢
   rw[List.zip_cons_cons,List.any_cons,List.any_cons,this]
theorem qsn (k:Key) (v:V) {ks:List Key} {vs:List V} (h:ks.length=vs.length):putK (ks.zip vs) k v=(qbl ks k).zip (qaz ks vs k v):=by
 unfold putK qbl qaz
 rw[qwj k h]
 cases qe6 ks k with
 | true=>rw[if_pos rfl,if_pos rfl,if_pos rfl];exact qo7 k v h
 | false =>
   rw[if_neg Bool.false_ne_true,if_neg Bool.false_ne_true,if_neg Bool.false_ne_true,List.zip_append h]
   rfl
theorem qo8 {w:Wd} {H:Hp} {k:Key} {d:D} {v:V} (r:Rep w H d v):∀ {ks:List Key} {xs:List D} {vs:List V},qb w H xs vs→qb w H (qd5 k d ks xs) (qd5 k v ks vs)
 | [],xs,vs,_=>by cases xs <;> cases vs <;> rfl
 | _::_,[],vs,h=>by cases (show vs=[] from h);rfl
 | j::ks,x::xs,vs,⟨u,s,e,h,t⟩=>by
   subst e
   refine⟨_,_,rfl,?_,qo8 r t⟩
   by_cases e:j=k
   · simp only [e,if_true];exact r
   · simp only [e,if_false];exact h
theorem qo9 {w:Wd} {H:Hp} {k:Key} {d:D} {v:V} (r:Rep w H d v) {ks:List Key} {xs:List D} {vs:List V} (h:qb w H xs vs):qb w H (qaz ks xs k d) (qaz ks vs k v):=by
 unfold qaz
 cases qe6 ks k with
 | true=>exact qo8 r h
 | false=>exact h.append (qb.one r)
noncomputable def setM (o i v:D):M Unit:=fun S=>match o with
 | .ref l=>match S[l]? with
   | some (.lst xs)=>match i with
     | .int k=>match ixN xs.length k with
       | some j=>.ok () (S.set l (.lst (xs.set j v)))
       | none=>.no
     | _=>.no
   | some (.dct ks xs)=>match keyOf i with
     | some k=>if ks.length < sizeLine then .ok () (S.set l (.dct (qbl ks k) (qaz ks xs k v)))else .no
     | none=>.no
   | _=>.no
 | _=>.no
theorem qnn.or {t t':qur} (h:qnn X t) (h':qnn X t'):qnn X (fun o i v H Q=>t o i v H Q∨t' o i v H Q):=fun pins s σ H o i v ov iv u Q I r1 r2 r3 q=>q.elim (h pins s σ H o i v ov iv u Q I r1 r2 r3) (h' pins s σ H o i v ov iv u Q I r1 r2 r3)
noncomputable def qwk:qur:=fun o i v H Q=>∃ a H',o=.ref a∧qzv H a i v H'∧Q H'
theorem qwl (hu:X.A.units+1 < cLine):qnn X qwk:=by
 intro pins s σ H o i v ov iv u Q I r1 r2 r3 h
 obtain ⟨a,H',rfl,g,q⟩:=h
 cases (show ov=Value.ref a from r1)
 exact qxw hu I g r2 r3 fun s' I'=>⟨H',I',q⟩
theorem qi5 {w:Wd} {H:Hp} {d:D} {v:V} {k:Key} (r:Rep w H d v) (e:keyOf d=some k):v=kV k:=by
 cases d <;> simp only [keyOf]at e <;> first | (cases e;done) | (cases e;exact r)
theorem q0a {w:Wd} {H:Hp} {S:Sto} {o i v:D} {ov iv vv:V} {P:Unit→Sto→Wd→Hp→Prop} {Q:Hp→Prop} (h:qe w H S) (ro:Rep w H o ov) (ri:Rep w H i iv) (rv:Rep w H v vv) (q:Wp E w H (setM o i v S) P)
   (hk:∀ S' H',Le w H w H'→qe w H' S'→P () S' w H'→Q H'):q40 ov iv vv H Q∨qwk ov iv vv H Q:=by
 unfold setM at q
 cases o <;> first | exact False.elim q | skip
 rename_i l
 dsimp only at q
 obtain ⟨a,ea,rfl⟩:=ro
 cases e:S[l]? with
 | none=>rw[e]at q;exact False.elim q
 | some c =>
   rw[e]at q
   have ce:=h.cell l a c ea e
   cases c with
   | gone=>exact False.elim q
   | obj _ _ _=>exact False.elim q
   | lst xs =>
     dsimp only at q
     cases i <;> first | exact False.elim q | skip
     rename_i k
     dsimp only at q
     cases e2:ixN xs.length k with
     | none=>rw[e2]at q;exact False.elim q
     | some j =>
       rw[e2]at q
       obtain ⟨nz,vs,ha,hvs⟩:=ce
       have hw:qe w (upd H a (.lst (vs.set j vv))) (S.set l (.lst (xs.set j v))):=qgk h ea nz ⟨nz,_,qi,(hvs.set rv j).mono (qbm nz)⟩
       exact .inl ⟨a,vs,k,j,rfl,ri,ha,by rw[← hvs.length];exact e2,hk _ _ (qbm nz) hw (q _ _ (qbm nz) hw)⟩
   | dct ks xs =>
     dsimp only at q
     cases e2:keyOf i with
     | none=>rw[e2]at q;exact False.elim q
     | some k =>
       rw[e2]at q
       dsimp only at q
       by_cases hz:ks.length < sizeLine
       · rw[if_pos hz]at q
         obtain ⟨nz,vs,ha,hl,hvs⟩:=ce
         have hl2:ks.length=vs.length:=by rw[hl,hvs.length]
         have hw:qe w (upd H a (.dK ((qbl ks k).zip (qaz ks vs k vv)))) (S.set l (.dct (qbl ks k) (qaz ks xs k v))):=qgk h ea nz ⟨nz,_,qi,qx7 k v hl,(qo9 rv hvs).mono (qbm nz)⟩
         refine .inr ⟨a,_,rfl,?_,hk _ _ (qbm nz) hw (q _ _ (qbm nz) hw)⟩
         rw[← qsn k vv hl2,qi5 ri e2]
         exact qzv.k ha (by rw[List.length_zip,← hl2,Nat.min_self];exact hz)
       · rw[if_neg hz]at q;exact False.elim q
noncomputable def q79 (f g:Env→M D) (d:D) (Γ:Env):M Env:=M.bind (f Γ) fun o=>M.bind (g Γ) fun i=>M.bind (setM o i d) fun _=>M.pure Γ
theorem qabg {o i:Expr} (hu:X.A.units+1 < cLine) (ho:PE X o (tD E f)) (hi:PE X i (tD E g)) (ha:∀ v,assign (.Subscript o i pos) X.env v=(do
     let ov ← holding [v] (eval o X.env)
     let iv ← holding [v,ov] (eval i X.env)
     standAt pos
     holding [v,ov,iv] (setItem ov iv v)
     release [v,ov,iv] [])):PG X (.Subscript o i pos) (tG E [] (q79 f g)):=by
 refine PG.mono (q5z ho hi (qnn.or set_list (qwl hu)) ha) fun v σ H Q ⟨w,d,Γ,S,rel,hold,rv,q⟩=> ?_
 refine qd (k:=fun o Γ=>M.bind (g Γ) fun i=>M.bind (setM o i d) fun _=>M.pure Γ) rel hold q fun dx x S1 w1 H1 l1 rel1 h1 rx q1=> ?_
 refine qd (k:=fun i Γ=>M.bind (setM dx i d) fun _=>M.pure Γ) rel1 h1 q1 fun dy y S2 w2 H2 l2 rel2 h2 ry q2=> ?_
 exact q0a h2 (rx.mono l2) ry (rv.mono (l1.trans l2)) (Wp.bind q2) fun S3 H3 l3 h3 q3=>q3 _ _ (Le.refl _ _) h3 _ (rel2.mono l3) (But.refl _ _)
noncomputable def ipD (op:Operator):D→D→M D:=match op with
 | .Add=>fun x y=>match x,y with
   | .int i,.int j=>M.pure (.int (i+j))
   | _,_=>M.fail
 | .Sub=>qxz
 | _=>fun _ _=>M.fail
noncomputable def IpT (X:Cx) (op:Operator) (h:D→D→M D):Prop:=∃ r:TIp,PIp X op r∧∀ (E:XW) w H S dx dy x y Q,qe w H S→Rep w H dx x→Rep w H dy y→Wp E w H (h dx dy S) (PV Q)→r x y H Q
theorem qfj {op:Operator}:IpT X op (fun _ _=>M.fail):=⟨fun _ _ _ _=>False,fun _ _ _ _ _ _ _ _ _ _ _ _ h=>False.elim h,fun _ _ _ _ _ _ _ _ _ _ _ _ q=>False.elim q⟩
theorem q3g:IpT X .Add (ipD .Add):=by
 refine⟨_,q53,fun E w H S dx dy x y Q h rx ry q=> ?_⟩
 cases dx <;> first | exact False.elim q | skip
 cases dy <;> first | exact False.elim q | skip
 exact⟨_,_,rx,ry,now h (d:=.int _) rfl q⟩
theorem q3h:IpT X .Sub (ipD .Sub):=by
 refine⟨_,q54,fun E w H S dx dy x y Q h rx ry q=> ?_⟩
 cases dx <;> first | exact False.elim q | skip
 cases dy <;> first | exact False.elim q | skip
 exact⟨_,_,rx,ry,now h (d:=.int _) rfl q⟩
theorem q46:∀ op:Operator,IpT X op (ipD op)
 | .Add=>q3g
 | .Sub=>q3h
 | .Mult=>qfj
 | .FloorDiv=>qfj
 | .Mod=>qfj
 | .Pow=>qfj
 | .MatMult=>qfj
 | .Div=>qfj
 | .LShift=>qfj
 | .RShift=>qfj
 | .BitOr=>qfj
 | .BitXor=>qfj
 | .BitAnd=>qfj
noncomputable def q8a (op:Operator) (i:Nat) (f:Env→M D):MS:=fun Γ=>M.bind (qfg i Γ) fun x=>M.bind (f Γ) fun y=>M.bind (ipD op x y) fun z=>M.pure (.nx,Γ.set i (some z))
theorem qabh {op:Operator} {i:Nat} {x:Str} {pos':Pos} (hN:X.N.Nodup) (hi:X.N[i]? =some x) (hx:Loc X.env.scope x) (he:PE X e (tD E f)) (hf:X.fn x=true∨X.env.scope.names.lookup x=some .local):PS X (.AugAssign (.Name x pos') op e pos) (tS E (q8a op i f)):=by
 obtain ⟨r,ho,hk⟩:=q46 (X:=X) op
 refine PS.mono (q52 hN hi hx he ho hf) fun D σ H ⟨w,Γ,S,rel,hold,q⟩=> ?_
 unfold q8a qfg at q
 cases e1:Γ[i]? with
 | none=>rw[e1]at q;exact False.elim q
 | some o =>
   cases o with
   | none=>rw[e1]at q;exact False.elim q
   | some d =>
     rw[e1]at q
     obtain ⟨v,ev,rv⟩:=rel.at_ i d e1
     refine⟨v,ev,qd (k:=fun y Γ=>M.bind (ipD op d y) fun z=>M.pure (Fl.nx,Γ.set i (some z))) rel hold q fun dx x S1 w1 H1 l1 rel1 h1 rx q1=> ?_⟩
     exact hk E w1 H1 S1 d dx v x _ h1 (rv.mono l1) rx ((Wp.bind q1).mono fun z S2 w2 H2 l2 h2 q2 u ru=>(q2 _ _ (Le.refl _ _) h2:qcj D (.nx,_) S2 w2 H2) _ ((rel1.mono l2).set ru))
theorem qr0.or {t t':V→V→Hp→VK→Prop} (h:qr0 X t) (h':qr0 X t'):qr0 X (fun o i H Q=>t o i H Q∨t' o i H Q):=fun pins s σ H o i ov iv Q I r1 r2 q=>q.elim (h pins s σ H o i ov iv Q I r1 r2) (h' pins s σ H o i ov iv Q I r1 r2)
theorem q3i (hu:X.A.units+1 < cLine):qr0 X (fun x y H Q=>∃ a v,x=.ref a∧qlr H a y (some v)∧Q v H):=by
 intro pins s σ H o i ov iv Q I r1 r2 h
 obtain ⟨a,v,rfl,g,q⟩:=h
 cases (show ov=Value.ref a from r1)
 exact qo2 hu I g r2 fun w' s' I' rw'=>⟨v,H,I',rw',q⟩
noncomputable def ixW (o i:D):M D:=match o with
 | .ref l=>fun S=>ixM (look (.ref l) S) i S
 | _=>M.fail
noncomputable def augIx (op:Operator) (f g h:Env→M D):MS:=fun Γ=>M.bind (f Γ) fun o=>M.bind (g Γ) fun i=>M.bind (ixW o i) fun x=>M.bind (h Γ) fun y=>M.bind (ipD op x y) fun z=>M.bind (setM o i z) fun _=>M.pure (.nx,Γ)
theorem q8b {w:Wd} {H:Hp} {S:Sto} {o i:D} {ov iv:V} {Q:VK} (h:qe w H S) (ro:Rep w H o ov) (ri:Rep w H i iv) (q:Wp E w H (ixW o i S) (PV Q)):q6l X.K ov iv H Q∨∃ a v,ov=.ref a∧qlr H a iv (some v)∧Q v H:=by
 unfold ixW at q
 cases o <;> first | exact False.elim q | skip
 rename_i l
 dsimp only at q
 unfold ixM at q
 cases e1:look (.ref l) S <;> rw[e1]at q <;> first | exact False.elim q | skip
 case lst xs =>
   cases i <;> first | exact False.elim q | skip
   rename_i i
   dsimp only at q
   cases e:atI xs i with
   | none=>rw[e]at q;exact False.elim q
   | some d =>
     rw[e]at q
     obtain ⟨p,vs,rfl,hp,hvs⟩:=qj h ro e1
     obtain ⟨v,e',rv⟩:=qqc hvs e
     exact .inl ⟨p,vs,i,v,rfl,ri,SqL.of hp,e',now h rv q⟩
 case tup xs =>
   unfold look at e1
   dsimp only at e1
   split at e1 <;> cases e1
 case str z =>
   unfold look at e1
   dsimp only at e1
   split at e1 <;> cases e1
 case dct ks ds =>
   dsimp only at q
   cases e:keyOf i with
   | none=>rw[e]at q;exact False.elim q
   | some j =>
     rw[e]at q
     dsimp only at q
     cases e2:qfh ks ds j with
     | none=>rw[e2]at q;exact False.elim q
     | some d =>
       rw[e2]at q
       obtain ⟨p,vs,rfl,hp,hl,hvs⟩:=qdf h ro e1
       obtain ⟨v,e',rv⟩:=qlw hvs e2
       refine .inr ⟨p,v,rfl,?_,now h rv q⟩
       rw[qi5 ri e,← e']
       exact qqb hp
theorem q3j {op:Operator} {o i:Expr} {tpos:Pos} (hu:X.A.units+1 < cLine) (ho:PE X o (tD E f)) (hi:PE X i (tD E g)) (he:PE X e (tD E h'))
   (ha:∀ ov iv new,augStore i ov iv new=(do holding [new,ov,iv] (setItem ov iv new);release [new,ov,iv] [];pure .next)):PS X (.AugAssign (.Subscript o i tpos) op e pos) (tS E (augIx op f g h')):=by
 obtain ⟨r,hop,hk⟩:=q46 (X:=X) op
 refine PS.mono (q2j ho hi (qr0.or qzn (q3i hu)) he hop (qnn.or set_list (qwl hu)) ha) fun D σ H ⟨w,Γ,S,rel,hold,q⟩=> ?_
 refine qd (k:=fun o Γ=>M.bind (g Γ) fun i=>M.bind (ixW o i) fun x=>M.bind (h' Γ) fun y=>M.bind (ipD op x y) fun z=>M.bind (setM o i z) fun _=>M.pure (Fl.nx,Γ)) rel hold q fun dx x S1 w1 H1 l1 rel1 h1 rx q1=> ?_
 refine qd (k:=fun i Γ=>M.bind (ixW dx i) fun x=>M.bind (h' Γ) fun y=>M.bind (ipD op x y) fun z=>M.bind (setM dx i z) fun _=>M.pure (Fl.nx,Γ)) rel1 h1 q1 fun dy y S2 w2 H2 l2 rel2 h2 ry q2=> ?_
 refine q8b (X:=X) (E:=E) h2 (rx.mono l2) ry ((Wp.bind q2).mono fun dz S3 w3 H3 l3 h3 q3 z rz=> ?_)
 refine qd (k:=fun y Γ=>M.bind (ipD op dz y) fun z=>M.bind (setM dx dy z) fun _=>M.pure (Fl.nx,Γ)) (rel2.mono l3) h3 q3 fun du u S4 w4 H4 l4 rel4 h4 ru q4=> ?_
 refine hk E w4 H4 S4 dz du z u _ h4 (rz.mono l4) ru ((Wp.bind q4).mono fun dn S5 w5 H5 l5 h5 q5 n rn=> ?_)
 exact q0a h5 (rx.mono (l2.trans (l3.trans (l4.trans l5)))) (ry.mono (l3.trans (l4.trans l5))) rn (Wp.bind q5) fun S6 H6 l6 h6 q6=>(q6 _ _ (Le.refl _ _) h6:qcj D (.nx,Γ) S6 w5 H6) σ ((rel4.mono l5).mono l6)
end
noncomputable abbrev Src:=List (Nat × Cell)
noncomputable def qag (src:Src) (S:Sto):Prop:=∀ p ∈ src,S[p.1]? =some p.2
noncomputable def guard (src:Src):M Unit:=fun S=> @ite _ (qag src S) (Classical.propDecidable _) (.ok () S) .no
theorem qso {src:Src} {S:Sto} (h:qag src S):guard src S=.ok () S:=by unfold guard;exact if_pos h
theorem qa5 {E:XW} {α:Type} {w:Wd} {H:Hp} {src:Src} {S:Sto} {k:M α} {P:α→Sto→Wd→Hp→Prop} (q:Wp E w H (M.bind (guard src) (fun _=>k) S) P):qag src S∧Wp E w H (k S) P:=by
 unfold M.bind guard at q
 by_cases h:qag src S
 · rw[if_pos h]at q;exact⟨h,q⟩
 · rw[if_neg h]at q;exact False.elim q
structure Walks (J:It) (w:Wd) (H:Hp) (src:Src) (items:List D):Prop where
 go:∀ w' H' S' (i:Nat),Le w H w' H'→qe w' H' S'→qag src S'→i < items.length→J.go i H'
 stop:∀ w' H' S',Le w H w' H'→qe w' H' S'→qag src S'→J.stop items.length H'
 yld:∀ w' H' S' (i:Nat) x H'',Le w H w' H'→qe w' H' S'→qag src S'→i < items.length→J.yld i H' x H''→∃ w'' d,items[i]? =some d∧Le w' H' w'' H''∧qe w'' H'' S'∧Rep w'' H'' d x
noncomputable abbrev MI:=Env→M (List D × Src)
noncomputable def tI (E:XW) (f:MI):TI:=fun σ H R=>∃ w Γ S,Rel w H σ Γ∧qe w H S∧Wp E w H (f Γ S) fun r _ w' H'=>∀ J,Walks J w' H' r.2 r.1→R J H'
section
variable {X:Cx} {E:XW} {a b c e tg it:Expr} {f g h':Env→M D} {pos:Pos} {s1 s2:MS} {st:Stmt} {rest:List Stmt} {fi:MI}
theorem PI.mono {t t':TI} (h:PI X tg it t) (k:∀ σ H R,t' σ H R→t σ H R):PI X tg it t':=fun pins s σ H R I q=>h pins s σ H R I (k σ H R q)
theorem PI.or {t t':TI} (h:PI X tg it t) (h':PI X tg it t'):PI X tg it (fun σ H R=>t σ H R∨t' σ H R):=fun pins s σ H R I q=>q.elim (h pins s σ H R I) (h' pins s σ H R I)
noncomputable def qo (d:D):M (List D × Src):=fun S=>match d with
 | .ref l=>match S[l]? with
   | some (.lst xs)=>.ok (xs,[(l,.lst xs)]) S
   | _=>.no
 | .lst xs=>.ok (xs,[]) S
 | .tup xs=>.ok (xs,[]) S
 | _=>.no
theorem qx8 {K:PySem.W.Frag} {w:Wd} {H:Hp} {src:Src} {a:Addr} {items:List D} (h:∀ w' H' S',Le w H w' H'→qe w' H' S'→qag src S'→∃ vs,H' a=some (.lst vs)∧qb w' H' items vs):Walks (Itl K a) w H src items:=by
 refine⟨fun w' H' S' i l hh hs hi=> ?_,fun w' H' S' l hh hs=> ?_,fun w' H' S' i x H'' l hh hs hi y=> ?_⟩
 · obtain ⟨vs,e,r⟩:=h w' H' S' l hh hs
   have hi2:i < vs.length:=by rw[← r.length];exact hi
   exact⟨vs,vs[i],SqL.of e,List.getElem?_eq_getElem hi2⟩
 · obtain ⟨vs,e,r⟩:=h w' H' S' l hh hs
   exact⟨vs,SqL.of e,by rw[r.length];exact Nat.le_refl _⟩
 · obtain ⟨vs,e,r⟩:=h w' H' S' l hh hs
   obtain ⟨rfl,y⟩:=y
   obtain ⟨d,e1,e2⟩:=r.get' (y vs (SqL.of e))
   exact⟨w',d,e1,Le.refl _ _,hh,e2⟩
theorem qx9 {K:PySem.W.Frag} {w:Wd} {H:Hp} {src:Src} {a:Addr} {items:List D} (h:∀ w' H' S',Le w H w' H'→qe w' H' S'→qag src S'→∃ vs,H' a=some (.tup vs)∧qb w' H' items vs):Walks (Itt K a) w H src items:=by
 refine⟨fun w' H' S' i l hh hs hi=> ?_,fun w' H' S' l hh hs=> ?_,fun w' H' S' i x H'' l hh hs hi y=> ?_⟩
 · obtain ⟨vs,e,r⟩:=h w' H' S' l hh hs
   have hi2:i < vs.length:=by rw[← r.length];exact hi
   exact⟨vs,vs[i],SqT.of e,List.getElem?_eq_getElem hi2⟩
 · obtain ⟨vs,e,r⟩:=h w' H' S' l hh hs
   exact⟨vs,SqT.of e,by rw[r.length];exact Nat.le_refl _⟩
 · obtain ⟨vs,e,r⟩:=h w' H' S' l hh hs
   obtain ⟨rfl,y⟩:=y
   obtain ⟨d,e1,e2⟩:=r.get' (y vs (SqT.of e))
   exact⟨w',d,e1,Le.refl _ _,hh,e2⟩
theorem qqe {w:Wd} {H:Hp} {S:Sto} {d:D} {v:V} {items:List D} {src:Src} {S':Sto} (h:qe w H S) (r:Rep w H d v) (e:qo d S=.ok (items,src) S') :
   S'=S∧((∃ a vs,v=.ref a∧H a=some (.lst vs)∧∀ w' H' S',Le w H w' H'→qe w' H' S'→qag src S'→∃ vs,H' a=some (.lst vs)∧qb w' H' items vs) ∨
    (∃ a vs,v=.ref a∧H a=some (.tup vs)∧∀ w' H' S',Le w H w' H'→qe w' H' S'→qag src S'→∃ vs,H' a=some (.tup vs)∧qb w' H' items vs)):=by
 unfold qo at e
 cases d <;> first | (cases e;done) | skip
 case ref l =>
   dsimp only at e
   cases q:S[l]? with
   | none=>rw[q]at e;cases e
   | some c =>
     rw[q]at e
     cases c <;> cases e
     obtain ⟨a,ea,rfl⟩:=r
     obtain ⟨_,vs,k1,_⟩:=h.cell l a _ ea q
     refine⟨rfl,.inl ⟨a,vs,rfl,k1,fun w' H' S' l' h' s'=> ?_⟩⟩
     obtain ⟨_,vs',k1',k2'⟩:=h'.cell l a _ (l'.at_ ea) (s' (l,.lst items) (by simp))
     exact⟨vs',k1',k2'⟩
 case lst xs =>
   cases e
   obtain ⟨a,vs,rfl,z,k1,k2⟩:=r
   exact⟨rfl,.inl ⟨a,vs,rfl,k1,fun w' H' S' l' _ _=>⟨vs,l'.lst z k1,k2.mono l'⟩⟩⟩
 case tup xs =>
   cases e
   obtain ⟨a,vs,rfl,z,k1,k2⟩:=r
   exact⟨rfl,.inr ⟨a,vs,rfl,k1,fun w' H' S' l' _ _=>⟨vs,l'.tup z k1,k2.mono l'⟩⟩⟩
theorem qabi (he:PE X it (tD E f)):PI X tg it (tI E fun Γ=>M.bind (f Γ) qo):=by
 refine PI.mono (PI.or (q2k he) (q56 he)) fun σ H R ⟨w,Γ,S,rel,hold,q⟩=> ?_
 have q:=Wp.bind q
 cases e0:f Γ S with
 | no=>rw[e0]at q;exact False.elim q
 | err x S1=>rw[e0]at q;exact .inl ⟨w,Γ,S,rel,hold,by rw[e0];exact q⟩
 | ok d S1 =>
   rw[e0]at q
   have q:∀ w' H',Le w H w' H'→qe w' H' S1→Wp E w' H' (qo d S1) _:=q
   cases e1:qo d S1 with
   | no =>
     refine .inl ⟨w,Γ,S,rel,hold,?_⟩
     rw[e0]
     intro w' H' l' h' v rv
     have:=q w' H' l' h'
     rw[e1]at this
     exact False.elim this
   | err x S2 =>
     unfold qo at e1
     cases d <;> dsimp only at e1 <;> first | (cases e1;done) | (split at e1 <;> cases e1)
   | ok r S2 =>
     obtain ⟨items,src⟩:=r
     by_cases ht:∃ xs,d=.tup xs
     · refine .inr ⟨w,Γ,S,rel,hold,?_⟩
       rw[e0]
       intro w' H' l' h' v rv
       have q2:=q w' H' l' h'
       rw[e1]at q2
       obtain ⟨rfl,k | k⟩:=qqe h' rv e1
       · obtain ⟨xs,rfl⟩:=ht
         obtain ⟨a,vs,rfl,k1,_⟩:=k
         obtain ⟨a',vs',e2,_,k2,_⟩:=rv
         cases e2
         rw[k1]at k2;cases k2
       · obtain ⟨a,vs,rfl,k1,k2⟩:=k
         exact⟨a,rfl,⟨vs,SqT.of k1⟩,q2 _ _ (Le.refl _ _) h' _ (qx9 k2)⟩
     · refine .inl ⟨w,Γ,S,rel,hold,?_⟩
       rw[e0]
       intro w' H' l' h' v rv
       have q2:=q w' H' l' h'
       rw[e1]at q2
       obtain ⟨rfl,k | k⟩:=qqe h' rv e1
       · obtain ⟨a,vs,rfl,k1,k2⟩:=k
         exact⟨a,rfl,⟨vs,SqL.of k1⟩,q2 _ _ (Le.refl _ _) h' _ (qx8 k2)⟩
       · exfalso
         obtain ⟨a,vs,rfl,k1,_⟩:=k
         clear q2 q e0
         cases d <;> first | (simp only [Rep]at rv;cases rv;done) | (unfold qo at e1;cases e1;done) | skip
         case ref l =>
           unfold qo at e1
           dsimp only at e1
           cases q':S2[l]? with
           | none=>rw[q']at e1;cases e1
           | some c =>
             rw[q']at e1
             cases c <;> cases e1
             obtain ⟨a',ea,e2⟩:=rv
             cases e2
             obtain ⟨_,vs',k2,_⟩:=h'.cell l a _ ea q'
             rw[k1]at k2;cases k2
         case lst =>
           obtain ⟨a',vs',e2,_,k2,_⟩:=rv
           cases e2
           rw[k1]at k2;cases k2
         case tup=>exact ht ⟨_,rfl⟩
end
section
variable {X:Cx} {E:XW} {a b c e tg it:Expr} {f g h':Env→M D} {pos p:Pos} {s1 s2:MS} {st:Stmt} {rest:List Stmt} {fi:MI} {fs:Env→M (List D)}
noncomputable def qd6 (lo:Int) (n:Nat):List D:=(List.range n).map fun k:Nat=>D.int (lo+k)
noncomputable def qhr (i:Int):Bool:=decide (-(2 ^ 62)≤i) && decide (i < 2 ^ 62)
noncomputable def qd3 (ds:List D):M (List D × Src):=match ds with
 | [.int j]=>if qhr j then M.pure (qd6 0 j.toNat,[])else M.fail
 | _=>M.fail
noncomputable def qgo (ds:List D):M (List D × Src):=match ds with
 | [.int i,.int j]=>if qhr i && qhr j then M.pure (qd6 i (j - i).toNat,[])else M.fail
 | _=>M.fail
theorem qpa {w:Wd} {H:Hp} {lo:Int} {n:Nat}:Walks (Itr lo n) w H [] (qd6 lo n):=by
 have hl:(qd6 lo n).length=n:=by simp [qd6]
 refine⟨fun w' H' S' i _ _ _ hi=>by rw[hl]at hi;exact hi,fun w' H' S' _ _ _=>by rw[hl];exact Nat.le_refl _,fun w' H' S' i x H'' l hh hs hi y=> ?_⟩
 obtain ⟨rfl,rfl⟩:=y
 rw[hl]at hi
 exact⟨w',.int (lo+i),by simp [qd6,hi],Le.refl _ _,hh,rfl⟩
theorem q8c (hg:Gl X "range") (hm:X.mg "range"=none) (ha:PA X [a] (tL E fs)) (hs:starEach [a] X.env=[(false,eval a X.env)]):PI X tg (.Call (.Name "range" p) [a] [] pos) (tI E fun Γ=>M.bind (fs Γ) qd3):=by
 refine PI.mono (qxf hg hm ha hs) fun σ H R ⟨w,Γ,S,rel,hold,q⟩=> ?_
 refine qb1 (k:=fun ds _=>qd3 ds) rel hold q fun ds vs S1 w1 H1 l1 rel1 h1 rv q1=> ?_
 unfold qd3 at q1
 split at q1
 case h_1 j =>
   obtain ⟨hz,q1⟩:=Wp.iteF q1
   unfold qhr at hz
   rw[Bool.and_eq_true]at hz
   obtain ⟨v,rfl,r⟩:=rv.one_
   exact⟨j,by rw[show v=.int j from r],of_decide_eq_true hz.1,of_decide_eq_true hz.2,q1 _ _ (Le.refl _ _) h1 _ qpa⟩
 case h_2=>exact False.elim q1
theorem q8d (hg:Gl X "range") (hm:X.mg "range"=none) (ha:PA X [a,b] (tL E fs)) (hs:starEach [a,b] X.env=[(false,eval a X.env),(false,eval b X.env)]) (hs2:starEach [b] X.env=[(false,eval b X.env)]):PI X tg (.Call (.Name "range" p) [a,b] [] pos) (tI E fun Γ=>M.bind (fs Γ) qgo):=by
 refine PI.mono (qxg hg hm ha hs hs2) fun σ H R ⟨w,Γ,S,rel,hold,q⟩=> ?_
 refine qb1 (k:=fun ds _=>qgo ds) rel hold q fun ds vs S1 w1 H1 l1 rel1 h1 rv q1=> ?_
 unfold qgo at q1
 split at q1
 case h_1 i j =>
   obtain ⟨hz,q1⟩:=Wp.iteF q1
   unfold qhr at hz
   rw[Bool.and_eq_true,Bool.and_eq_true,Bool.and_eq_true]at hz
   obtain ⟨v,v',rfl,r,r'⟩:=rv.two_
   exact⟨i,j,by rw[show v=.int i from r,show v'=.int j from r'],⟨of_decide_eq_true hz.1.1,of_decide_eq_true hz.1.2,of_decide_eq_true hz.2.1,of_decide_eq_true hz.2.2⟩,q1 _ _ (Le.refl _ _) h1 _ qpa⟩
 case h_2=>exact False.elim q1
noncomputable def qfk (xs:List D):List D:=(List.range xs.length).map fun i:Nat=>D.tup [.int i,xs.getD i .non]
noncomputable def qcl (ds:List D):M (List D × Src):=match ds with
 | [d]=>M.bind (qo d) fun r=>match d with
   | .tup _=>M.fail
   | _=>M.pure (qfk r.1,r.2)
 | _=>M.fail
theorem qsp {xs:List D} {i:Nat} {d:D} (h:xs[i]? =some d):(qfk xs)[i]? =some (.tup [.int i,d]):=by
 have hi:=(List.getElem?_eq_some_iff.mp h).1
 simp [qfk,hi]
 have:xs[i]=d:=by rw[List.getElem?_eq_getElem hi]at h;exact Option.some.inj h
 exact this
theorem qi6 (xs:List D):(qfk xs).length=xs.length:=by simp [qfk]
theorem qsq {w:Wd} {H:Hp} {S:Sto} {p:Addr} {d d':D} {v v':V} (h:qe w H S) (hp:H p=none) (r:Rep w H d v) (r':Rep w H d' v'):Le w H (w.fix p) (upd H p (.tup [v,v']))∧qe (w.fix p) (upd H p (.tup [v,v'])) S∧Rep (w.fix p) (upd H p (.tup [v,v'])) (.tup [d,d']) (.ref p) :=
 ⟨qdc h hp,qfe h hp,p,[v,v'],rfl,.inl rfl,qi,qb.cons (r.mono (qdc h hp)) (qb.one (r'.mono (qdc h hp)))⟩
theorem qu6 {K:PySem.W.Frag} {w:Wd} {H:Hp} {src:Src} {a:Addr} {xs:List D} (h:∀ w' H' S',Le w H w' H'→qe w' H' S'→qag src S'→∃ vs,H' a=some (.lst vs)∧qb w' H' xs vs):Walks (Ite K a) w H src (qfk xs):=by
 refine⟨fun w' H' S' i l hh hs hi=> ?_,fun w' H' S' l hh hs=> ?_,fun w' H' S' i x H'' l hh hs hi y=> ?_⟩
 · obtain ⟨vs,e,r⟩:=h w' H' S' l hh hs
   have hi2:i < vs.length:=by rw[← r.length,← qi6];exact hi
   exact⟨vs,vs[i],SqL.of e,List.getElem?_eq_getElem hi2⟩
 · obtain ⟨vs,e,r⟩:=h w' H' S' l hh hs
   exact⟨vs,SqL.of e,by rw[qi6,r.length];exact Nat.le_refl _⟩
 · obtain ⟨vs,e,r⟩:=h w' H' S' l hh hs
   obtain ⟨p,z,hp,rfl,rfl,y⟩:=y
   obtain ⟨d,e1,e2⟩:=r.get' (y vs (SqL.of e))
   obtain ⟨k1,k2,k3⟩:=qsq (d:=.int i) (v:=.int i) hh hp rfl e2
   exact⟨_,_,qsp e1,k1,k2,k3⟩
theorem q8e {elts:List Expr} {k:Nat} {pos':Pos} (hg:Gl X "enumerate") (hm:X.mg "enumerate"=none) (ha:PA X [a] (tL E fs)) (hs:starEach [a] X.env=[(false,eval a X.env)]):PI X (.Tuple elts k pos') (.Call (.Name "enumerate" p) [a] [] pos) (tI E fun Γ=>M.bind (fs Γ) qcl):=by
 refine PI.mono (q2y hg hm ha hs) fun σ H R ⟨w,Γ,S,rel,hold,q⟩=> ?_
 refine qb1 (k:=fun ds _=>qcl ds) rel hold q fun ds vs S1 w1 H1 l1 rel1 h1 rv q1=> ?_
 unfold qcl at q1
 split at q1
 case h_2=>exact False.elim q1
 case h_1 d =>
   obtain ⟨v,rfl,r⟩:=rv.one_
   replace q1:=Wp.bind q1
   cases e1:qo d S1 with
   | no=>rw[e1]at q1;exact False.elim q1
   | err x S2 =>
     unfold qo at e1
     cases d <;> dsimp only at e1 <;> first | (cases e1;done) | (split at e1 <;> cases e1)
   | ok rr S2 =>
     rw[e1]at q1
     obtain ⟨items,src⟩:=rr
     obtain ⟨rfl,k | k⟩:=qqe h1 r e1
     · obtain ⟨p,vs,rfl,k1,k2⟩:=k
       have q2:=q1 _ _ (Le.refl _ _) h1
       have:∀ xs,d ≠ .tup xs:=by
         rintro xs rfl
         obtain ⟨a',vs',e2,_,k3,_⟩:=r
         cases e2
         rw[k1]at k3;cases k3
       have q3:Wp E w1 H1 (M.pure (qfk items,src) S2) fun r x w' H'=>∀ J,Walks J w' H' r.2 r.1→R J H':=by
         cases d <;> first | exact q2 | exact absurd rfl (this _)
       exact⟨p,rfl,⟨vs,SqL.of k1⟩,q3 _ _ (Le.refl _ _) h1 _ (qu6 k2)⟩
     · obtain ⟨p,vs,rfl,k1,k2⟩:=k
       exfalso
       have q2:=q1 _ _ (Le.refl _ _) h1
       clear q1
       cases d <;> first | (simp only [Rep]at r;cases r;done) | (unfold qo at e1;cases e1;done) | exact False.elim q2 | skip
       case ref l =>
         unfold qo at e1
         dsimp only at e1
         cases q':S2[l]? with
         | none=>rw[q']at e1;cases e1
         | some c =>
           rw[q']at e1
           cases c <;> cases e1
           obtain ⟨a',ea,e2⟩:=r
           cases e2
           obtain ⟨_,vs',k3,_⟩:=h1.cell l p _ ea q'
           rw[k1]at k3;cases k3
       case lst =>
         obtain ⟨a',vs',e2,_,k3,_⟩:=r
         cases e2
         rw[k1]at k3;cases k3
noncomputable def qe7:List D→List D→List D
 | x::xs,y::ys=>.tup [x,y]::qe7 xs ys
 | _,_=>[]
theorem qqf:∀ {xs ys:List D} {i:Nat} {d d':D},xs[i]? =some d→ys[i]? =some d'→(qe7 xs ys)[i]? =some (.tup [d,d'])
 | [],_,_,_,_,h,_=>by simp at h
 | _::_,[],_,_,_,_,h=>by simp at h
 | x::xs,y::ys,0,d,d',h,h'=>by
   simp at h h'
   subst h h'
   rfl
 | x::xs,y::ys,i+1,d,d',h,h'=>by
   rw[qe7]
   simp only [List.getElem?_cons_succ]at h h' ⊢
   exact qqf h h'
theorem ql1:∀ (xs ys:List D),(qe7 xs ys).length=min xs.length ys.length
 | [],ys=>by simp [qe7]
 | _::_,[]=>by simp [qe7]
 | x::xs,y::ys=>by simp [qe7,ql1 xs ys,Nat.succ_min_succ]
noncomputable def qd7 (ds:List D):M (List D × Src):=match ds with
 | [d,d']=>M.bind (qo d) fun r=>M.bind (qo d') fun r'=>M.pure (qe7 r.1 r'.1,r.2++r'.2)
 | _=>M.fail
theorem q47 {w:Wd} {H:Hp} {S:Sto} {d:D} {v:V} {items:List D} {src:Src} {S':Sto} {K:PySem.W.Frag} (h:qe w H S) (r:Rep w H d v) (e:qo d S=.ok (items,src) S') :
   S'=S∧∃ (bb:Bool) (a:Addr) (vs:List V),v=.ref a∧SqS K bb H a vs∧∀ w' H' S',Le w H w' H'→qe w' H' S'→qag src S'→∃ vs,SqS K bb H' a vs∧qb w' H' items vs:=by
 obtain ⟨rfl,k | k⟩:=qqe h r e
 · obtain ⟨a,vs,e1,e2,k⟩:=k
   exact⟨rfl,true,a,vs,e1,SqL.of e2,fun w' H' S' l h s=>let ⟨vs,e,r⟩:=k w' H' S' l h s;⟨vs,SqL.of e,r⟩⟩
 · obtain ⟨a,vs,e1,e2,k⟩:=k
   exact⟨rfl,false,a,vs,e1,SqT.of e2,fun w' H' S' l h s=>let ⟨vs,e,r⟩:=k w' H' S' l h s;⟨vs,SqT.of e,r⟩⟩
theorem qkm {d:D} {S:Sto} {x:Exn} {S':Sto}:qo d S ≠ .err x S':=fun e1=>by
 unfold qo at e1
 cases d <;> dsimp only at e1 <;> first | (cases e1;done) | (split at e1 <;> cases e1)
theorem qya {K:PySem.W.Frag} {w:Wd} {H:Hp} {src src':Src} {b1 b2:Bool} {a a':Addr} {xs ys:List D} (h:∀ w' H' S',Le w H w' H'→qe w' H' S'→qag src S'→∃ vs,SqS K b1 H' a vs∧qb w' H' xs vs)
   (h2:∀ w' H' S',Le w H w' H'→qe w' H' S'→qag src' S'→∃ vs,SqS K b2 H' a' vs∧qb w' H' ys vs):Walks (Itz K b1 b2 a a') w H (src++src') (qe7 xs ys):=by
 have s1:∀ {S},qag (src++src') S→qag src S:=fun s p hp=>s p (List.mem_append_left _ hp)
 have s2:∀ {S},qag (src++src') S→qag src' S:=fun s p hp=>s p (List.mem_append_right _ hp)
 refine⟨fun w' H' S' i l hh hs hi=> ?_,fun w' H' S' l hh hs=> ?_,fun w' H' S' i x H'' l hh hs hi y=> ?_⟩
 · obtain ⟨vs,e,r⟩:=h w' H' S' l hh (s1 hs)
   obtain ⟨us,e',r'⟩:=h2 w' H' S' l hh (s2 hs)
   rw[ql1,r.length,r'.length]at hi
   exact⟨⟨vs,vs[i]'(by omega),e,List.getElem?_eq_getElem (by omega)⟩,us,us[i]'(by omega),e',List.getElem?_eq_getElem (by omega)⟩
 · obtain ⟨vs,e,r⟩:=h w' H' S' l hh (s1 hs)
   obtain ⟨us,e',r'⟩:=h2 w' H' S' l hh (s2 hs)
   exact⟨vs,us,e,e',by rw[ql1,r.length,r'.length];omega⟩
 · obtain ⟨vs,e,r⟩:=h w' H' S' l hh (s1 hs)
   obtain ⟨us,e',r'⟩:=h2 w' H' S' l hh (s2 hs)
   obtain ⟨p,z,z',hp,rfl,rfl,y,y'⟩:=y
   obtain ⟨d,e1,e2⟩:=r.get' (y vs e)
   obtain ⟨d',e1',e2'⟩:=r'.get' (y' us e')
   obtain ⟨k1,k2,k3⟩:=qsq hh hp e2 e2'
   exact⟨_,_,qqf e1 e1',k1,k2,k3⟩
theorem qabj {elts:List Expr} {k:Nat} {pos':Pos} (hg:Gl X "zip") (hm:X.mg "zip"=none) (ha:PA X [a,b] (tL E fs)) (hs:starEach [a,b] X.env=[(false,eval a X.env),(false,eval b X.env)]) (hs2:starEach [b] X.env=[(false,eval b X.env)]):PI X (.Tuple elts k pos') (.Call (.Name "zip" p) [a,b] [] pos) (tI E fun Γ=>M.bind (fs Γ) qd7):=by
 refine PI.mono (q63 hg hm ha hs hs2) fun σ H R ⟨w,Γ,S,rel,hold,q⟩=> ?_
 refine qb1 (k:=fun ds _=>qd7 ds) rel hold q fun ds vs S1 w1 H1 l1 rel1 h1 rv q1=> ?_
 unfold qd7 at q1
 split at q1
 case h_2=>exact False.elim q1
 case h_1 d d' =>
   obtain ⟨v,v',rfl,r,r'⟩:=rv.two_
   replace q1:=Wp.bind q1
   cases e1:qo d S1 with
   | no=>rw[e1]at q1;exact False.elim q1
   | err x S2=>exact absurd e1 qkm
   | ok rr S2 =>
     rw[e1]at q1
     obtain ⟨items,src⟩:=rr
     obtain ⟨rfl,b1,a1,vs1,rfl,k1,k2⟩:=q47 (K:=X.K) h1 r e1
     have q2:=Wp.bind (q1 _ _ (Le.refl _ _) h1)
     cases e2:qo d' S2 with
     | no=>rw[e2]at q2;exact False.elim q2
     | err x S2=>exact absurd e2 qkm
     | ok rr' S3 =>
       rw[e2]at q2
       obtain ⟨items',src'⟩:=rr'
       obtain ⟨rfl,b2,a2,vs2,rfl,k1',k2'⟩:=q47 (K:=X.K) h1 r' e2
       exact⟨b1,b2,a1,a2,rfl,⟨vs1,k1⟩,⟨vs2,k1'⟩,q2 _ _ (Le.refl _ _) h1 _ _ (Le.refl _ _) h1 _ (qya k2 k2')⟩
noncomputable def forL (src:Src) (hd:D→Env→M Env) (body:MS):List D→MS
 | [],Γ=>M.bind (guard src) fun _=>M.pure (.nx,Γ)
 | d::ds,Γ=>M.bind (guard src) fun _=>M.bind (hd d Γ) fun Γ1=>M.bind (body Γ1) fun r=>match r.1 with
   | .nx=>forL src hd body ds r.2
   | .ct=>forL src hd body ds r.2
   | .bk=>M.pure (.nx,r.2)
   | .rt d=>M.pure (.rt d,r.2)
noncomputable def q3k (fi:MI) (hd:D→Env→M Env) (body:MS):MS:=fun Γ=>M.bind (fi Γ) fun r=>forL r.2 hd body r.1 Γ
theorem qabk {T:List Nat} {hd:D→Env→M Env} {body:List Stmt} (hp:PassesOwn (model X.prog X.w) X.A X.env X.xe) (hc:X.calm=true) (hi:PI X tg it (tI E fi)) (hg:PG X tg (tG E T hd)) (hb:PSs X body (tS E s1)) (hs:∀ x,foldedSetIterable it X.env x=pure x) :
   PS X (.For tg it body [] pos) (tS E (q3k fi hd s1)):=by
 refine PS.mono (q57 hp hc hi hg hb hs) fun D σ H ⟨w,Γ,S,rel,hold,q⟩=> ?_
 refine⟨w,Γ,S,rel,hold,(Wp.bind q).mono fun r S1 w1 H1 l1 h1 q1 J wk=> ?_⟩
 obtain ⟨items,src⟩:=r
 refine⟨fun i m σ H=>m=items.length - i∧i≤items.length∧∃ w' Γ' S',Le w1 H1 w' H∧Rel w' H σ Γ'∧qe w' H S'∧Wp E w' H (forL src hd s1 (items.drop i) Γ' S') (qcj D),⟨_,rfl,Nat.zero_le _,w1,Γ,S1,Le.refl _ _,rel.mono l1,h1,q1⟩,?_⟩
 rintro i m σ H ⟨rfl,hi,w2,Γ2,S2,l2,rel2,h2,q2⟩
 by_cases hlt:i < items.length
 · have hdr:items.drop i=items[i]::items.drop (i+1):=(List.drop_eq_getElem_cons hlt)
   rw[hdr,forL]at q2
   obtain ⟨so,q2⟩:=qa5 q2
   refine .inr ⟨wk.go w2 H S2 i l2 h2 so hlt,fun σ' H'=>∃ w' Γ' S',Le w1 H1 w' H'∧Rel w' H' σ' Γ'∧qe w' H' S'∧Wp E w' H' (forL src hd s1 (items.drop (i+1)) Γ' S') (qcj D),fun σ' H' z=>⟨_,by omega,rfl,hlt,z⟩,fun x H' y=> ?_⟩
   obtain ⟨w3,d,e3,l3,h3,r3⟩:=wk.yld w2 H S2 i x H' l2 h2 so hlt y
   have:d=items[i]:=by rw[List.getElem?_eq_getElem hlt]at e3;exact(Option.some.inj e3).symm
   subst this
   have q3:=q2.later l3
   refine⟨w3,items[i],Γ2,S2,rel2.mono l3,h3,r3,(Wp.bind q3).mono fun Γ4 S4 w4 H4 l4 h4 q4 σ4 rel4 _=> ?_⟩
   refine⟨w4,Γ4,S4,rel4,h4,(Wp.bind q4).mono fun r5 S5 w5 H5 l5 h5 q5=> ?_⟩
   obtain ⟨fl,Γ5⟩:=r5
   have ll:=(l2.trans l3).trans (l4.trans l5)
   cases fl with
   | nx=>exact fun σ' rel'=>⟨w5,Γ5,S5,ll,rel',h5,q5⟩
   | ct=>exact fun σ' rel'=>⟨w5,Γ5,S5,ll,rel',h5,q5⟩
   | bk=>exact fun σ' rel'=>(q5 _ _ (Le.refl _ _) h5:qcj D (.nx,Γ5) S5 w5 H5) σ' rel'
   | rt d=>exact fun v rv=>(q5 _ _ (Le.refl _ _) h5:qcj D (.rt d,Γ5) S5 w5 H5) v rv
 · have e:i=items.length:=by omega
   subst e
   rw[List.drop_length,forL]at q2
   obtain ⟨so,q2⟩:=qa5 q2
   exact .inl ⟨wk.stop w2 H S2 l2 h2 so,(q2 _ _ (Le.refl _ _) h2:qcj D (.nx,Γ2) S2 w2 H) σ rel2⟩
noncomputable def qk (c:Env→M Bool) (body:MS):Nat→MS
 | 0,_=>M.fail
 | n+1,Γ=>M.bind (c Γ) fun b=>if b=true then M.bind (body Γ) fun r=>match r.1 with
   | .nx=>qk c body n r.2
   | .ct=>qk c body n r.2
   | .bk=>M.pure (.nx,r.2)
   | .rt d=>M.pure (.rt d,r.2)else M.pure (.nx,Γ)
noncomputable def qdi (c:Env→M Bool) (body:MS):MS:=fun Γ S=> @dite _ (∃ n,qk c body n Γ S ≠ .no) (Classical.propDecidable _) (fun h=>qk c body h.choose Γ S) (fun _=>.no)
theorem q3l {fc:Env→M Bool} {body:List Stmt} (hp:PassesOwn (model X.prog X.w) X.A X.env X.xe) (hc:PT X c (tB E fc)) (hb:PSs X body (tS E s1)):PS X (.While c body [] pos) (tS E (qdi fc s1)):=by
 refine PS.mono (qy4 hp hc hb) fun D σ H ⟨w,Γ,S,rel,hold,q⟩=> ?_
 unfold qdi at q
 by_cases hn:∃ n,qk fc s1 n Γ S ≠ .no
 · rw [dif_pos hn]at q
   refine⟨fun m σ H=>∃ w' Γ' S',Rel w' H σ Γ'∧qe w' H S'∧Wp E w' H (qk fc s1 m Γ' S') (qcj D),⟨_,w,Γ,S,rel,hold,q⟩,?_⟩
   rintro m σ H ⟨w2,Γ2,S2,rel2,h2,q2⟩
   cases m with
   | zero=>exact False.elim q2
   | succ m =>
     rw[qk]at q2
     refine qc3 (k:=fun b Γ=>if b=true then M.bind (s1 Γ) fun r=>match r.1 with
       | .nx=>qk fc s1 m r.2
       | .ct=>qk fc s1 m r.2
       | .bk=>M.pure (.nx,r.2)
       | .rt d=>M.pure (.rt d,r.2)else M.pure (.nx,Γ)) rel2 h2 q2 fun bb S3 w3 H3 l3 rel3 h3 q3=> ?_
     cases bb with
     | true =>
       rw[if_pos rfl]
       refine⟨fun σ' H'=>∃ w' Γ' S',Rel w' H' σ' Γ'∧qe w' H' S'∧Wp E w' H' (qk fc s1 m Γ' S') (qcj D),fun σ' H' z=>⟨m,by omega,z⟩,?_⟩
       refine⟨w3,Γ2,S3,rel3,h3,(Wp.bind q3).mono fun r5 S5 w5 H5 l5 h5 q5=> ?_⟩
       obtain ⟨fl,Γ5⟩:=r5
       cases fl with
       | nx=>exact fun σ' rel'=>⟨w5,Γ5,S5,rel',h5,q5⟩
       | ct=>exact fun σ' rel'=>⟨w5,Γ5,S5,rel',h5,q5⟩
       | bk=>exact fun σ' rel'=>(q5 _ _ (Le.refl _ _) h5:qcj D (.nx,Γ5) S5 w5 H5) σ' rel'
       | rt d=>exact fun v rv=>(q5 _ _ (Le.refl _ _) h5:qcj D (.rt d,Γ5) S5 w5 H5) v rv
     | false =>
       rw[if_neg Bool.false_ne_true]
       exact(q3 _ _ (Le.refl _ _) h3:qcj D (.nx,Γ2) S3 w3 H3) σ rel3
 · rw[dif_neg hn]at q
   exact False.elim q
end
noncomputable def noErr {α:Type} (m:M α):M α:=fun S=>match m S with
 | .err _ _=>.no
 | r=>r
theorem Wp.noErr {α:Type} {E E':XW} {w:Wd} {H:Hp} {m:M α} {S:Sto} {P:α→Sto→Wd→Hp→Prop} (q:Wp E w H (noErr m S) P):Wp E' w H (m S) P:=by
 unfold T3.noErr at q
 cases e:m S with
 | ok a S'=>rw[e]at q;exact q
 | err x S'=>rw[e]at q;exact False.elim q
 | no=>rw[e]at q;exact q
noncomputable def lcA (src:Src) (n:Nat) (hd:D→Env→M Env) (cond:Env→M Bool) (elt:Env→M D) (Γ:Env):List D→List D→M (List D)
 | acc,[]=>M.bind (guard src) fun _=>M.pure acc
 | acc,d::ds=>M.bind (guard src) fun _=>M.bind (hd d (List.replicate n none++Γ)) fun Γ1=>M.bind (cond Γ1) fun b =>
   if b=true then M.bind (elt Γ1) fun y=>lcA src n hd cond elt Γ (acc++[y]) ds else lcA src n hd cond elt Γ acc ds
noncomputable def lcD (new:Bool) (n:Nat) (fi:MI) (hd:D→Env→M Env) (cond:Env→M Bool) (elt:Env→M D) (Γ:Env):M D :=
 M.bind (fi Γ) fun r=>if decide (r.1.length < sizeLine)then M.bind (noErr (lcA r.2 n hd cond elt Γ [] r.1)) fun ds=>alloc new (.lst ds)else M.fail
theorem Rel.cons {w:Wd} {H:Hp} {σ:St} {Γ:Env} (r:Rel w H σ Γ) (n:Nat):Rel w H (List.replicate n none++σ) (List.replicate n none++Γ):=by
 refine⟨by simp [r.len],fun i d e=> ?_⟩
 by_cases hi:i < n
 · rw[List.getElem?_append_left (by simpa using hi)]at e
   simp [hi]at e
 · rw[List.getElem?_append_right (by simp;omega)]at e ⊢
   simp only [List.length_replicate]at e ⊢
   exact r.at_ _ d e
theorem Rel.undrop {w:Wd} {H:Hp} {σ:St} {n:Nat} {σ2:St} {T:List Nat} {Γ2:Env} (r2:Rel w H σ2 Γ2) (hT:∀ i ∈ T,i < n) (hb:But T (List.replicate n none++σ) σ2) (hl:σ2.length=n+σ.length):σ2.drop n=σ:=by
 refine List.ext_getElem? fun i=> ?_
 rw[List.getElem?_drop,hb (n+i) (fun z=>by have:=hT _ z;omega),List.getElem?_append_right (by simp)]
 simp
section
variable {X:Cx} {E E2:XW} {tg it elt:Expr} {ifs:List Expr} {fe:Env→M D} {pos:Pos} {fi:MI} {cond:Env→M Bool} {T:List Nat} {hd:D→Env→M Env} {ts Mk:List Str} {scope:Scope} {new:Bool}
noncomputable def qaj (hd:D→Env→M Env):Prop:=∀ d Γ S Γ' S',hd d Γ S=.ok Γ' S'→Γ'.length=Γ.length
theorem qabl {w:Wd} {H:Hp} {σ:St} {Γ:Env} {S:Sto} {src:Src} {items:List D} {J:It} {P:List D→Sto→Wd→Hp→Prop} {n:Nat} (hT:∀ i ∈ T,i < n) (hk:qaj hd) (rel:Rel w H σ Γ) (hold:qe w H S) (wk:Walks J w H src items) (hz:items.length < sizeLine)
   (q:Wp E2 w H (lcA src n hd cond fe Γ [] items S) P) {Fin:List V→Hp→Prop} (hf:∀ ds vs S' w' H',Le w H w' H'→qe w' H' S'→qb w' H' ds vs→P ds S' w' H'→Fin vs H'):LcW J n (tG E2 T hd) (tB E2 cond) (tD E2 fe) σ H Fin:=by
 refine qaao (k:=items.length) (fun i ys H'=>∃ w' S' acc,Le w H w' H'∧qe w' H' S'∧qb w' H' acc ys∧acc.length≤i∧i≤items.length∧Wp E2 w' H' (lcA src n hd cond fe Γ acc (items.drop i) S') P) hz ⟨w,S,[],Le.refl _ _,hold,rfl,Nat.le_refl _,Nat.zero_le _,q⟩ ?_ ?_ ?_ ?_ ?_
 · rintro i ys H' hi ⟨w',S',acc,_,_,r,hl,_⟩
   rw[← r.length];exact hl
 · rintro ys H' ⟨w',S',acc,l,hh,r,hl,_,q⟩
   rw[List.drop_length,lcA]at q
   exact wk.stop w' H' S' l hh (qa5 q).1
 · rintro i ys H' hi ⟨w',S',acc,l,hh,r,hl,_,q⟩
   rw[List.drop_eq_getElem_cons hi,lcA]at q
   exact wk.go w' H' S' i l hh (qa5 q).1 hi
 · rintro i ys H' hi ⟨w2,S2,acc,l2,h2,r2,hl,_,q2⟩ x H'' y
   rw[List.drop_eq_getElem_cons hi,lcA]at q2
   obtain ⟨so,q2⟩:=qa5 q2
   obtain ⟨w3,d,e3,l3,h3,r3⟩:=wk.yld w2 H' S2 i x H'' l2 h2 so hi y
   have:d=items[i]:=by rw[List.getElem?_eq_getElem hi]at e3;exact(Option.some.inj e3).symm
   subst this
   have q3:=Wp.bind (q2.later l3)
   refine⟨w3,items[i],_,S2,(rel.mono (l2.trans l3)).cons n,h3,r3,?_⟩
   cases e4:hd items[i] (List.replicate n none++Γ) S2 with
   | no=>rw[e4]at q3;exact q3
   | err x S4=>rw[e4]at q3;exact q3
   | ok Γ4 S4 =>
     rw[e4]at q3
     have hlen:Γ4.length=n+Γ.length:=by rw[hk _ _ _ _ _ e4];simp
     intro w4 H4 l4 h4 σ4 rel4 b4
     have q4:=q3 w4 H4 l4 h4
     refine⟨rel4.undrop hT b4 (by rw[← rel4.len,hlen,rel.len]),?_⟩
     refine qc3 (k:=fun b Γ1=>if b=true then M.bind (fe Γ1) fun y=>lcA src n hd cond fe Γ (acc++[y]) (items.drop (i+1))else lcA src n hd cond fe Γ acc (items.drop (i+1))) rel4 h4 q4 fun bb S5 w5 H5 l5 rel5 h5 q5=> ?_
     have ll:=(l2.trans l3).trans (l4.trans l5)
     have rr:=r2.mono (l3.trans (l4.trans l5))
     cases bb with
     | true =>
       rw[if_pos rfl]
       refine qd (k:=fun y _=>lcA src n hd cond fe Γ (acc++[y]) (items.drop (i+1))) rel5 h5 q5 fun dy yv S6 w6 H6 l6 rel6 h6 ry q6=> ?_
       exact⟨w6,S6,acc++[dy],ll.trans l6,h6,(rr.mono l6).append (qb.one ry),by simp;omega,hi,q6⟩
     | false =>
       rw[if_neg Bool.false_ne_true]
       exact⟨w5,S5,acc,ll,h5,rr,by omega,hi,q5⟩
 · rintro ys H' ⟨w',S',acc,l,hh,r,hl,_,q⟩
   rw[List.drop_length,lcA]at q
   obtain ⟨_,q⟩:=qa5 q
   exact hf acc ys S' w' H' l hh r (q _ _ (Le.refl _ _) hh)
theorem q0b {σ:St} {H:Hp} {Q:VK} {n:Nat} (hT:∀ i ∈ T,i < n) (hk:qaj hd) (h:tD E (lcD new n fi hd cond fe) σ H Q):tLC n (tI E fi) (tG E2 T hd) (tB E2 cond) (tD E2 fe) σ H Q:=by
 obtain ⟨w,Γ,S,rel,hold,q⟩:=h
 refine⟨w,Γ,S,rel,hold,(Wp.bind q).mono fun r S1 w1 H1 l1 h1 q1 J wk=> ?_⟩
 obtain ⟨hz,q1⟩:=Wp.iteF q1
 exact qabl hT hk (rel.mono l1) h1 wk (of_decide_eq_true hz) (Wp.noErr (Wp.bind q1)) fun ds vs S' w' H' l' h' rv q' D hD=>qay h' rv q' hD
theorem r_lc (cc:qax X ts Mk scope) (hc:X.calm=true) (hi:PI X tg it (tI E fi)) (hg:∀ C fp s₀ H₀,PG (cxC X ts Mk scope C fp s₀ H₀) tg (tG E2 T hd)) (hf:∀ C fp s₀ H₀,PF (cxC X ts Mk scope C fp s₀ H₀) ifs (tB E2 cond))
   (he:∀ C fp s₀ H₀,PE (cxC X ts Mk scope C fp s₀ H₀) elt (tD E2 fe)) (hs:∀ x,foldedSetIterable it X.env x=pure x) (hT:∀ i ∈ T,i < ts.length) (hk:qaj hd):PE X (.ListComp elt [⟨tg,it,ifs,0⟩] scope pos) (tD E (lcD new ts.length fi hd cond fe)) :=
 PE.mono (qaan cc hc hi hg hf he hs) fun σ H Q h=>q0b hT hk h
theorem q3m {i:Nat} {x:Str} {pos' spos:Pos} (hN:X.N.Nodup) (hix:X.N[i]? =some x) (hx:Loc X.env.scope x) (cc:qax X ts Mk scope) (hc:X.calm=true) (hi:PI X tg it (tI E fi)) (hg:∀ C fp s₀ H₀,PG (cxC X ts Mk scope C fp s₀ H₀) tg (tG E2 T hd)) (hf:∀ C fp s₀ H₀,PF (cxC X ts Mk scope C fp s₀ H₀) ifs (tB E2 cond))
   (he:∀ C fp s₀ H₀,PE (cxC X ts Mk scope C fp s₀ H₀) elt (tD E2 fe)) (hs:∀ x,foldedSetIterable it X.env x=pure x) (hsw:swapsWith (.ListComp elt [⟨tg,it,ifs,0⟩] scope pos) (some (.Name x pos')) spos.line X.env=pure true) (hfn:X.fn x=true∨X.env.scope.names.lookup x=some .local) (hT:∀ i ∈ T,i < ts.length) (hk:qaj hd) :
   PS X (.Assign [.Name x pos'] (.ListComp elt [⟨tg,it,ifs,0⟩] scope pos) spos) (tS E fun Γ=>M.bind (lcD new ts.length fi hd cond fe Γ) fun d=>M.pure (.nx,Γ.set i (some d))):=by
 refine PS.mono (qzo hN hix hx cc hc hi hg hf he hs hsw hfn) fun D σ H ⟨w,Γ,S,rel,hold,q⟩=> ?_
 refine q0b (new:=new) hT hk (qd (k:=fun d Γ=>M.pure (Fl.nx,Γ.set i (some d))) rel hold q fun dx x S1 w1 H1 l1 rel1 h1 rx q1=> ?_)
 exact(q1 _ _ (Le.refl _ _) h1:qcj D (.nx,_) S1 w1 H1) _ (rel1.set rx)
theorem q48:PF X [] (tB E fun _=>M.pure true):=fun pins s σ H Q I ⟨w,Γ,S,rel,hold,q⟩=>q61 pins s σ H Q I (q _ _ (Le.refl _ _) hold)
theorem qabm {c:Expr} (h:PT X c (tB E cond)):PF X [c] (tB E cond):=q62 h
end
theorem qyb (i:Nat):qaj (q76 i):=fun d Γ S Γ' S' e=>by cases e;simp
end T3
namespace L2
open PySem PySem.Spec PyProof.Rows
section
variable {prog:Program} {w:World} {A:Around} {R:Result→Shared→Prop} {elt t1 i1 t2 i2:Expr} {f1 f2:List Expr} {scope:Scope} {pos:Pos} {it acc:Value} {env:Env} {s:Shared}
theorem qnt:compTurn (.ListComp elt [⟨t1,i1,f1,0⟩,⟨t2,i2,f2,0⟩] scope pos) 0 it acc env=(do
     standAt i1.pos
     match ← pyNext it with
     | none=>pure (.done .next)
     | some v =>
       letOwnedTupleGo t1 it v
       assign t1 env v
       let mut ok:=true
       for c in f1 do
         if ok then ok ← isTrue c env (eval c env)
       if ok then
         let x ← eval i2 env
         standAt i2.pos
         let x ← foldedSetIterable i2 env x
         let _ ← runOwn (.compStart (.ListComp elt [⟨t1,i1,f1,0⟩,⟨t2,i2,f2,0⟩] scope pos) 1 (← holding [x] (pyIter x)) acc env) env
       again (.compLoop (.ListComp elt [⟨t1,i1,f1,0⟩,⟨t2,i2,f2,0⟩] scope pos) 0 it acc env)):=by rfl
theorem qnu:compTurn (.ListComp elt [⟨t1,i1,f1,0⟩,⟨t2,i2,f2,0⟩] scope pos) 1 it acc env=(do
     standAt i2.pos
     match ← pyNext it with
     | none=>pure (.done .next)
     | some v =>
       letOwnedTupleGo t2 it v
       assign t2 env v
       let mut ok:=true
       for c in f2 do
         if ok then ok ← isTrue c env (eval c env)
       if ok then
         (do let _ ← call (.builtin "list.append") [acc,← eval elt env])
       again (.compLoop (.ListComp elt [⟨t1,i1,f1,0⟩,⟨t2,i2,f2,0⟩] scope pos) 1 it acc env)):=by rfl
theorem qnv (I:Nat→Shared→Prop)
   (turn : ∀ n s,I n s→wpAny (model prog w) A (pyNext it) (fun r s₁=>match r with
     | none=>R (.ok .next) s₁
     | some v=>wpAny (model prog w) A (letOwnedTupleGo t2 it v) (fun _ s₁'=>wpAny (model prog w) A (assign t2 env v) (fun _ s₂ =>
         wpAny (model prog w) A (forIn f2 true fun c r=>if r=true then do let ok ← isTrue c env (eval c env);pure (ForInStep.yield ok)else pure (ForInStep.yield r)) (fun ok s₃ =>
           if ok=true then wpAny (model prog w) A (eval elt env) (fun x s₄ =>
             wpAny (model prog w) A (call (.builtin "list.append") [acc,x]) (fun _ s₅=>∃ m,m < n∧I m s₅) (fun _ _=>False) s₄) (fun _ _=>False) s₃
           else ∃ m,m < n∧I m s₃) (fun _ _=>False) s₂) (fun _ _=>False) s₁') (fun _ _=>False) s₁) (fun _ _=>False) s)
   (n:Nat) (h:I n s) :
   codeAny (model prog w) A (.compLoop (.ListComp elt [⟨t1,i1,f1,0⟩,⟨t2,i2,f2,0⟩] scope pos) 1 it acc env) R s:=by
 refine codeAny_loop rfl I (fun n s hI=> ?_) n h
 show wpAny _ A ((compTurn (.ListComp elt [⟨t1,i1,f1,0⟩,⟨t2,i2,f2,0⟩] scope pos) 1 it acc env).onRaise (fun x=>do noteFrame x env;theTreesLotGoes x)) _ _ s
 refine wpAny_noted ?_
 rw[qnu]
 refine wpAny_bind (wpAny_standAt (wpAny_bind (wpAny_mono (turn n s hI) (fun r s₁ h₁=> ?_) fun _ _ h'=>h'.elim)))
 cases r with
 | none=>exact wpAny_pure h₁
 | some v =>
   refine wpAny_bind (wpAny_mono h₁ (fun _ s₁' h₁'=> ?_) fun _ _ h'=>h'.elim)
   refine wpAny_bind (wpAny_mono h₁' (fun _ s₂ h₂=>wpAny_bind (wpAny_mono h₂ (fun ok s₃ h₃=> ?_) fun _ _ h'=>h'.elim)) fun _ _ h'=>h'.elim)
   cases ok with
   | false=>exact wpAny_pure ⟨rfl,h₃⟩
   | true =>
     exact wpAny_bind (wpAny_bind (wpAny_mono h₃ (fun x s₄ h₄=>wpAny_bind (wpAny_mono h₄ (fun _ s₅ h₅=>wpAny_pure (wpAny_pure ⟨rfl,h₅⟩)) fun _ _ h'=>h'.elim)) fun _ _ h'=>h'.elim))
theorem qnw (hs:∀ x,foldedSetIterable i2 env x=pure x) (I:Nat→Shared→Prop)
   (turn : ∀ n s,I n s→wpAny (model prog w) A (pyNext it) (fun r s₁=>match r with
     | none=>R (.ok .next) s₁
     | some v=>wpAny (model prog w) A (letOwnedTupleGo t1 it v) (fun _ s₁'=>wpAny (model prog w) A (assign t1 env v) (fun _ s₂ =>
         wpAny (model prog w) A (forIn f1 true fun c r=>if r=true then do let ok ← isTrue c env (eval c env);pure (ForInStep.yield ok)else pure (ForInStep.yield r)) (fun ok s₃ =>
           if ok=true then wpAny (model prog w) A (eval i2 env) (fun x s₄ =>
             wpAny (model prog w) A (pyIter x) (fun itv s₅=>codeAny (model prog w) A (.compStart (.ListComp elt [⟨t1,i1,f1,0⟩,⟨t2,i2,f2,0⟩] scope pos) 1 itv acc env) (fun r s₆=>match r with | .ok _=>∃ m,m < n∧I m s₆ | .error _=>False) s₅) (fun _ _=>False) s₄) (fun _ _=>False) s₃
           else ∃ m,m < n∧I m s₃) (fun _ _=>False) s₂) (fun _ _=>False) s₁') (fun _ _=>False) s₁) (fun _ _=>False) s)
   (n:Nat) (h:I n s) :
   codeAny (model prog w) A (.compLoop (.ListComp elt [⟨t1,i1,f1,0⟩,⟨t2,i2,f2,0⟩] scope pos) 0 it acc env) R s:=by
 refine codeAny_loop rfl I (fun n s hI=> ?_) n h
 show wpAny _ A ((compTurn (.ListComp elt [⟨t1,i1,f1,0⟩,⟨t2,i2,f2,0⟩] scope pos) 0 it acc env).onRaise (fun x=>do noteFrame x env;theTreesLotGoes x)) _ _ s
 refine wpAny_noted ?_
 rw[qnt]
 refine wpAny_bind (wpAny_standAt (wpAny_bind (wpAny_mono (turn n s hI) (fun r s₁ h₁=> ?_) fun _ _ h'=>h'.elim)))
 cases r with
 | none=>exact wpAny_pure h₁
 | some v =>
   refine wpAny_bind (wpAny_mono h₁ (fun _ s₁' h₁'=> ?_) fun _ _ h'=>h'.elim)
   refine wpAny_bind (wpAny_mono h₁' (fun _ s₂ h₂=>wpAny_bind (wpAny_mono h₂ (fun ok s₃ h₃=> ?_) fun _ _ h'=>h'.elim)) fun _ _ h'=>h'.elim)
   cases ok with
   | false=>exact wpAny_pure ⟨rfl,h₃⟩
   | true =>
     refine wpAny_bind (wpAny_mono h₃ (fun x s₄ h₄=>wpAny_bind (wpAny_standAt (wpAny_bind (wpAny_of_eq (hs x) (wpAny_bind (wpAny_holding (wpAny_mono h₄ (fun itv s₅ h₅=> ?_) fun _ _ h'=>h'.elim))))))) fun _ _ h'=>h'.elim)
     refine wpAny_bind (wpAny_runOwn (codeAny_mono h₅ fun r s₆ h₆=> ?_))
     cases r with
     | ok f=>exact wpAny_pure ⟨rfl,h₆⟩
     | error e=>exact h₆.elim
theorem ql2
   (h0:codeAny (model prog w) A (.compLoop (.ListComp elt [⟨t1,i1,f1,0⟩,⟨t2,i2,f2,0⟩] scope pos) 1 it acc env) R s)
   (h:wpAny (model prog w) A (pyIter it) (fun it' s'=>codeAny (model prog w) A (.compLoop (.ListComp elt [⟨t1,i1,f1,0⟩,⟨t2,i2,f2,0⟩] scope pos) 1 it' acc env) R s')
     (notedBy (model prog w) A env fun x s'=>R (.error x) s') s) :
   codeAny (model prog w) A (.compStart (.ListComp elt [⟨t1,i1,f1,0⟩,⟨t2,i2,f2,0⟩] scope pos) 1 it acc env) R s:=by
 refine codeAny_of_tree ?_
 show wpAny _ _ ((compStart (.ListComp elt [⟨t1,i1,f1,0⟩,⟨t2,i2,f2,0⟩] scope pos) 1 it acc env).onRaise (fun x=>do noteFrame x env;standAt theWindowsPlace)) _ _ s
 refine wpAny_notedAt ?_
 unfold compStart
 show wpAny _ _ (ask >>= _) _ _ s
 refine wpAny_bind (wpAny_askSetting (wpAny_ite ?_))
 split
 · first
     | exact wpAny_bind (wpAny_pure (wpAny_pure (And.intro rfl h0)))
     | exact wpAny_pure (And.intro rfl h0)
 · first
     | exact wpAny_bind (wpAny_rule (wpAny_bind (wpAny_standAt (wpAny_bind (wpAny_mono h (fun it' s' h'=>wpAny_pure (And.intro rfl h')) fun _ _ x=>x)))))
     | (refine wpAny_bind (wpAny_rule ?_);show wpAny _ _ (standAt i2.pos >>= _) _ _ s;exact wpAny_bind (wpAny_standAt (wpAny_bind (wpAny_mono h (fun it' s' h'=>wpAny_pure (And.intro rfl h')) fun _ _ x=>x))))
end
noncomputable def LcI (J:It) (n:Nat) (g:TG) (tt:TT) (te:TE) (σ:St) (H1:Hp) (ys0:List V) (Fin:List V→Hp→Prop):Prop :=
 ∃ W : Nat→Nat→List V→Hp→Prop,(∃ m,W 0 m ys0 H1)∧∀ i m ys H,W i m ys H→ys.length < sizeLine ∧
   ((J.stop i H∧Fin ys H) ∨
    (J.go i H∧∃ N:List V→Hp→Prop,(∀ ys' H',N ys' H'→∃ m',m' < m∧W (i+1) m' ys' H')∧∀ x H',J.yld i H x H'→g x (List.replicate n none++σ) H' fun σ2 H2=>σ2.drop n=σ∧tt σ2 H2 fun c H3 =>
       if c=true then te σ2 H3 fun y H4=>N (ys++[y]) H4 else N ys H3))
section
variable {Y:Cx}
theorem Inv.bareN {pins:List (Addr × Obj)} {σ' σ:St} {H:Hp} {s:Shared} {n:Nat} (I:Inv Y pins σ' H s) (hn:n≤σ'.length) (d:σ'.drop n=σ):Inv Y pins (List.replicate n none++σ) H s:=by
 refine I.weak (by rw[List.length_append,List.length_replicate,← d,List.length_drop];omega) (fun j v e=> ?_)
 have hj:n≤j:=by
   rcases Nat.lt_or_ge j n with z | z
   · rw[List.getElem?_append_left (by simpa using z),List.getElem?_replicate]at e
     split at e <;> cases e
   · exact z
 rw[List.getElem?_append_right (by simpa using hj)]at e
 rw[← d,List.getElem?_drop]at e
 simp only [List.length_replicate]at e
 rwa [show n+(j - n)=j by omega]at e
theorem q0c {elt t1 i1 t2 i2:Expr} {f1 f2:List Expr} {scope:Scope} {pos:Pos} {g:TG} {tt:TT} {te:TE} (hc:Y.calm=true) (hx:Y.xe=fun _ _=>False) (hpn:Y.pn=[]) (hg:PG Y t2 g) (hf:PF Y f2 tt) (he:PE Y elt te)
   {D:Addr} {pins0:List (Addr × Obj)} {n:Nat} {σ1 σ2:St} {H:Hp} {s:Shared} {ys0:List V} {its0:List Value} {k0:Nat} (hDl:D ≠ Y.env.locals) (hDs:Y.s₀.heap.objs.size≤D) (hDc:∀ x a,Y.env.cells.lookup x=some a→a ≠ D) (hDp:∀ p ∈ pins0,p.1 ≠ D) (hDf:D ∉ Y.fs)
   (hn:n≤Y.N.length) (I:Inv Y ((D,{ cls:=.type "list",data:=.seq its0.toArray k0 })::pins0) σ2 H s) (d:σ2.drop n=σ1) {it:Addr} {fp:List Addr} {tn:Nat→Heap→Prop} {J:It} (T:Turn Y.prog Y.w Y.K t2 J fp it tn) (t0:tn 0 s.heap)
   (f0:∀ b ∈ fp,qei Y ((D,{ cls:=.type "list",data:=.seq its0.toArray k0 })::pins0) H b) (rv0:Vals ys0 its0) {Fin:List V→Hp→Prop} (hw:LcI J n g tt te σ1 H ys0 Fin) {R:Result→Shared→Prop}
   (hR:∀ (σ':St) (H':Hp) (s':Shared) (ys:List V) (its:List Value) (k:Nat),Inv Y ((D,{ cls:=.type "list",data:=.seq its.toArray k })::pins0) σ' H' s'→σ'.drop n=σ1→Vals ys its→Fin ys H'→R (.ok .next) s') :
   codeAny (model Y.prog Y.w) Y.A (.compStart (.ListComp elt [⟨t1,i1,f1,0⟩,⟨t2,i2,f2,0⟩] scope pos) 1 (.ref it) (.ref D) Y.env) R s:=by
 obtain ⟨W,⟨m0,w0⟩,turn⟩:=hw
 have loop :codeAny (model Y.prog Y.w) Y.A (.compLoop (.ListComp elt [⟨t1,i1,f1,0⟩,⟨t2,i2,f2,0⟩] scope pos) 1 (.ref it) (.ref D) Y.env) R s:=by
   refine qnv (fun n' s'=>∃ (i:Nat) (σ':St) (H':Hp) (ys:List V) (its:List Value) (k:Nat),Inv Y ((D,{ cls:=.type "list",data:=.seq its.toArray k })::pins0) σ' H' s'∧σ'.drop n=σ1∧tn i s'.heap∧(∀ b ∈ fp,H' b=none)∧Vals ys its∧W i n' ys H') ?_ m0
     ⟨0,_,H,ys0,its0,k0,I,d,t0,fun b hb=>(f0 b hb).1,rv0,w0⟩
   rintro n' s1 ⟨i,σ',H1,ys,its,k,I1,d1,t1',fr1,rv1,w1⟩
   obtain ⟨hz,hturn⟩:=turn i n' ys H1 w1
   have stat:∀ {H':Hp},(∀ b ∈ fp,H' b=none)→∀ b ∈ fp,qei Y ((D,{ cls:=.type "list",data:=.seq its.toArray k })::pins0) H' b:=fun {H'} hn b hb=>by
     obtain ⟨_,a2,a3,a4,a5,a6⟩:=f0 b hb
     refine⟨hn b hb,a2,a3,a4,a5,fun p hp=> ?_⟩
     rcases List.mem_append.mp hp with z | z
     · exact a6 p (List.mem_append_left _ z)
     · rcases List.mem_cons.mp z with z | z
       · subst z
         exact a6 (D,{ cls:=.type "list",data:=.seq its0.toArray k0 }) (List.mem_append_right _ List.mem_cons_self)
       · exact a6 p (List.mem_append_right _ (List.mem_cons_of_mem _ z))
   rcases hturn with ⟨stop,fin⟩ | ⟨go,N,hN,step⟩
   · refine wpAny_mono (T.done Y rfl rfl rfl hc i _ s1 σ' H1 (fun _ _=>False) I1 (stat fr1) t1' stop) (fun r s2 ⟨hr,I2⟩=> ?_) fun _ _ z=>z
     subst hr
     exact hR σ' H1 s2 ys its k I2 d1 rv1 fin
   · refine wpAny_mono (T.item Y rfl rfl rfl hc i _ s1 σ' H1 (fun _ _=>False) I1 (stat fr1) t1' go) (fun r s2 ⟨u,hr,h2⟩=> ?_) fun _ _ z=>z
     subst hr
     refine wpAny_mono h2 (fun _ s3 ⟨x,H3,I3,r3,y3,t3,fr3⟩=> ?_) fun _ _ z=>z
     have hlen':n≤σ'.length:=by rw[I3.len];exact hn
     have I3':=((I3.pinned (stat fr3) (T.obj _ _ t3)).bareN hlen' d1)
     have hgx:=hg _ s3 _ H3 x u _ I3' r3 (step x H3 y3)
     rw[hx]at hgx
     refine wpAny_mono hgx (fun _ s4 ⟨σ4,H4,I4,d4,q4⟩=> ?_) fun _ _ z=>z
     have hfx:=hf _ s4 σ4 H4 _ I4 q4
     rw[hx]at hfx
     refine wpAny_mono hfx (fun ok s5 ⟨H5,I5,q5⟩=> ?_) fun _ _ z=>z
     have keepT:∀ {σ7:St} {H7:Hp} {s7:Shared},Inv Y (((D,{ cls:=.type "list",data:=.seq its.toArray k })::pins0)++qej fp s3.heap) σ7 H7 s7→tn (i+1) s7.heap∧(∀ b ∈ fp,H7 b=none):=fun {σ7 H7 s7} I7 =>
       ⟨T.keep _ _ _ t3 fun b hb o e=>(I7.pin (b,o) (List.mem_append_right _ (List.mem_append_right _ (qat hb e)))).1,fun b hb=>by
         obtain ⟨o,e,_⟩:=T.obj _ _ t3 b hb
         exact(I7.pin (b,o) (List.mem_append_right _ (List.mem_append_right _ (qat hb e)))).2.1⟩
     cases ok with
     | false =>
       rw[if_neg Bool.false_ne_true]at q5 ⊢
       obtain ⟨m',hm,w'⟩:=hN _ _ q5
       exact⟨m',hm,i+1,σ4,H5,ys,its,k,I5.unpinned,d4,(keepT I5).1,(keepT I5).2,rv1,w'⟩
     | true =>
       rw[if_pos rfl]at q5 ⊢
       have hex:=he _ s5 σ4 H5 _ I5 q5
       rw[hx]at hex
       refine wpAny_mono hex (fun v s6 ⟨y,H6,I6,r6,q6⟩=> ?_) fun _ _ z=>z
       obtain ⟨m',hm,w'⟩:=hN _ _ q6
       have pD:=I6.pin (D,{ cls:=.type "list",data:=.seq its.toArray k }) (by simp)
       have hlen:=rv1.length
       refine call_meets F.slot_list_append ⟨_,pD.1,rfl⟩ F.entry_list_append (F.args_list_append_2 _ _) (PySem.list_append D its.toArray k v (by rw[List.size_toArray];omega)) ⟨pD.1,?_⟩
       have q:=PySem.IsL.update pD.1 (·.push v)
       rw[show its.toArray.push v=(its++[v]).toArray by simp]at q
       have up:∀ b o,b ≠ D→s6.heap.get? b=some o→(s6.heap.update D (Obj.mapSeq (·.push v))).get? b=some o:=fun b o hb e=>(Heap.get?_update_other s6.heap (Obj.mapSeq (·.push v)) (Ne.symm hb)).trans e
       have I7:Inv Y pins0 σ4 H6 { s6 with heap:=s6.heap.update D (Obj.mapSeq (·.push v)),toks:=s6.toks } :=
         (I6.pins_of (pins':=pins0) (fun p hp=>I6.pin p (List.mem_append_right _ (List.mem_append_left _ (List.mem_cons_of_mem _ hp))))).turned up pD.2.1 hDl (.inr hDs) hDc (fun p hp=>by
           rw[hpn]at hp
           exact hDp p (by simpa using hp))
       have nDfp:D ∉ fp:=fun z=>(f0 D z).2.2.2.2.2 (D,{ cls:=.type "list",data:=.seq its0.toArray k0 }) (List.mem_append_right _ List.mem_cons_self) rfl
       have I8:=I7.pins_of (pins':=(D,{ cls:=.type "list",data:=.seq (its++[v]).toArray _ })::pins0) (fun p hp=>by
         rcases List.mem_cons.mp hp with z | z
         · subst z
           exact⟨q,pD.2.1,hDl,hDf,fun v z=>by cases z⟩
         · exact I7.pin p (List.mem_append_right _ z))
       refine⟨m',hm,i+1,σ4,H6,ys++[y],its++[v],_,I8,d4,?_,(keepT I6).2,rv1.append (.cons r6 .nil),w'⟩
       exact T.keep _ _ _ (keepT I6).1 fun b hb o e=>up b o (fun z=>nDfp (z ▸ hb)) e
 exact ql2 loop (T.self _ 0 _ _ _ t0 loop)
end
noncomputable def LcO (J:It) (n n2:Nat) (g:TG) (tt:TT) (wi2:TI) (g2:TG) (tt2:TT) (te:TE) (σ:St) (H1:Hp) (Fin:List V→Hp→Prop):Prop :=
 ∃ W : Nat→Nat→List V→Hp→Prop,(∃ m,W 0 m [] H1)∧∀ i m ys H,W i m ys H→ys.length < sizeLine ∧
   ((J.stop i H∧Fin ys H) ∨
    (J.go i H∧∃ N:List V→Hp→Prop,(∀ ys' H',N ys' H'→∃ m',m' < m∧W (i+1) m' ys' H')∧∀ x H',J.yld i H x H'→g x (List.replicate n none++σ) H' fun σ2 H2=>σ2.drop n=σ∧tt σ2 H2 fun c H3 =>
       if c=true then wi2 σ2 H3 fun J2 H4=>LcI J2 n2 g2 tt2 te (σ2.drop n2) H4 ys N else N ys H3))
noncomputable def tLC2 (n n2:Nat) (wi:TI) (g:TG) (tt:TT) (wi2:TI) (g2:TG) (tt2:TT) (te:TE):TE:=fun σ H Q=>wi σ H fun J H1=>LcO J n n2 g tt wi2 g2 tt2 te σ H1 fun ys H'=>∀ D,H' D=none→Q (.ref D) (upd H' D (.lst ys))
section
variable {X:Cx} {pins:List (Addr × Obj)} {σ:St} {H:Hp} {s:Shared} {ts M:List Str} {scope:Scope} {fp:List Addr}
theorem qyc {tg iter t2 i2 elt:Expr} {ifs f2:List Expr} {pos:Pos} {g g2:TG} {tt tt2:TT} {wi2:TI} {te:TE} {n2:Nat} (hn2:n2≤ts.length) (c:qax X ts M scope) (hc:X.calm=true) (hg:∀ C fp s₀ H₀,PG (cxC X ts M scope C fp s₀ H₀) tg g) (hf:∀ C fp s₀ H₀,PF (cxC X ts M scope C fp s₀ H₀) ifs tt)
   (hi2:∀ C fp s₀ H₀,PI (cxC X ts M scope C fp s₀ H₀) t2 i2 wi2) (hg2:∀ C fp s₀ H₀,PG (cxC X ts M scope C fp s₀ H₀) t2 g2) (hf2:∀ C fp s₀ H₀,PF (cxC X ts M scope C fp s₀ H₀) f2 tt2)
   (he:∀ C fp s₀ H₀,PE (cxC X ts M scope C fp s₀ H₀) elt te) (hs2:∀ env x,foldedSetIterable i2 env x=pure x) {it:Addr} {tn:Nat→Heap→Prop} {J:It} {Fin:List V→Hp→Prop} (I:Inv X pins σ H s) (T:Turn X.prog X.w X.K tg J fp it tn) (t0:tn 0 s.heap) (f0:∀ b ∈ fp,qei X pins H b) (hw:LcO J ts.length n2 g tt wi2 g2 tt2 te σ H Fin)
   {RR:Value→Addr→Result→Shared→Prop}
   (hRR:∀ (D C:Addr) (H':Hp) (s':Shared) (ys:List V) (m:Str→Option Value),Inv X pins σ (upd H' D (.lst ys)) s'→s'.heap.Ns C m→C ≠ X.env.locals→(∀ x a,X.env.cells.lookup x=some a→a ≠ C)→X.s₀.heap.objs.size≤C→upd H' D (.lst ys) C=none→(∀ p ∈ X.pn++pins,p.1 ≠ C)→H' D=none→Fin ys H'→RR (.ref D) C (.ok .next) s') :
   wpAny (model X.prog X.w) X.A (newList []) (fun acc s₃=>wpAny (model X.prog X.w) X.A (newFunctionEnv scope X.env.globals (clo scope X.env) [] X.env.qual none .none (some X.env)) (fun cenv s₄ =>
     codeAny (model X.prog X.w) X.A (.compStart (.ListComp elt [⟨tg,iter,ifs,0⟩,⟨t2,i2,f2,0⟩] scope pos) 0 (.ref it) acc { cenv with scope:=relabel scope X.env }) (RR acc cenv.locals) s₄) X.xe s₃) X.xe s:=by
 obtain ⟨W,⟨m0,w0⟩,turn⟩:=hw
 have fpo:∀ b ∈ fp,b < s.heap.objs.size:=fun b hb=>by obtain ⟨o,e,_⟩:=T.obj _ _ t0 b hb;exact Heap.lt_size e
 refine wpAny_newObj_type (qgj ?_)
 dsimp only
 generalize hH2:s.heap.push { cls:=.type "list",dict:=none,data:=.seq ([]:List Value).toArray }=h2
 have hCs:h2.objs.size=s.heap.objs.size+1:=by rw[← hH2,Heap.size_push]
 obtain ⟨C,hCe⟩:∃ C:Nat,h2.objs.size=C:=⟨_,rfl⟩
 obtain ⟨D,hDe⟩:∃ D:Nat,s.heap.objs.size=D:=⟨_,rfl⟩
 have hns₁:=(Heap.Ns.new h2 (.type "dict")).keeps (pushCells_keeps scope.names (h2.push { cls:=.type "dict",data:=.dict #[] }))
 have ok:=cellsFrom_ok scope.names (h2.push { cls:=.type "dict",data:=.dict #[] }) (h2.objs.size+1) [] ⟨fun _ _ hm=>(nomatch hm),List.Pairwise.nil⟩ (by rw[Heap.size_push];exact Nat.le_refl _)
 rw[Heap.size_push]at ok
 rw[hCe]at hns₁ ok ⊢
 rw[hDe]
 rw[hCe,hDe]at hCs
 have hDC:D ≠ C:=by omega
 generalize hh1:pushCells (h2.push { cls:=.type "dict",data:=.dict #[] }) scope.names=h₁ at hns₁ ok ⊢
 have kp:∀ b o,h2.get? b=some o→h₁.get? b=some o:=fun b o e=>by rw[← hh1];exact pushCells_keeps _ _ b o (Heap.get?_push_of_some _ e)
 have old:∀ b u,s.heap.get? b=some u→h₁.get? b=some u:=fun b u e=>kp b u (hH2 ▸ Heap.get?_push_of_some _ e)
 have hacc:h₁.get? D=some { cls:=.type "list",data:=.seq ([]:List Value).toArray 0 }:=by
   refine kp _ _ ?_
   rw[← hH2,← hDe]
   exact Heap.get?_push_size _ rfl
 have hns:h₁.Ns C fun _=>none:=hns₁
 have hO:q2x scope C h₁:=⟨fun x a h=>⟨(ok.empty x a h).1,(ok.empty x a h).2⟩,ok.apart⟩
 have J0:Inv (cxC X ts M scope C fp s H) [] (List.replicate ts.length none++σ) H { s with heap:=h₁,toks:=s.toks }:=I.comp c f0 fpo (by omega) hns hO old
 have hDn:H D=none:=I.hok.fresh (by omega)
 have loop : codeAny (model X.prog X.w) X.A (.compLoop (.ListComp elt [⟨tg,iter,ifs,0⟩,⟨t2,i2,f2,0⟩] scope pos) 0 (.ref it) (.ref D) (compEnvC scope (cellsFrom (C+1) scope.names (clo scope X.env)) C X.env)) (RR (.ref D) C) { s with heap:=h₁,toks:=s.toks }:=by
   refine qnw (hs2 _) (fun n s'=>∃ (i:Nat) (σ':St) (H':Hp) (ys:List V) (its:List Value) (k:Nat),Inv (cxC X ts M scope C fp s H) [] σ' H' s'∧σ'.drop ts.length=σ∧tn i s'.heap∧(∀ b ∈ fp,H' b=none)∧H' D=none∧s'.heap.get? D=some { cls:=.type "list",data:=.seq its.toArray k }∧Vals ys its∧W i n ys H') ?_ m0
     ⟨0,_,H,[],[],0,J0,by rw[List.drop_append,List.drop_of_length_le (by simp)];simp,T.keep _ _ _ t0 fun b _ o e=>old b o e,fun b hb=>(f0 b hb).1,hDn,hacc,.nil,w0⟩
   rintro n s1 ⟨i,σ1,H1,ys,its,k,I1,d1,t1,fr1,hD1,hl1,rv1,w1⟩
   obtain ⟨hz,hturn⟩:=turn i n ys H1 w1
   have nDfp:D ∉ fp:=fun z=>by have: @LT.lt Nat _ D s.heap.objs.size:=fpo D z;omega
   have neC:∀ x a,(cellsFrom (C+1) scope.names (clo scope X.env)).lookup x=some a→a ≠ D:=fun x a h z=>by
     have z: @Eq Nat a D:=z
     rcases qam h with h | ⟨_,h⟩
     · have:=(hO.empty _ _ h).2
       omega
     · obtain ⟨v,q⟩:=I.cell x a (qel (c.has I.ok) h)
       have: @LT.lt Nat _ a s.heap.objs.size:=q.lt
       omega
   have pinD:∀ {H':Hp} {s':Shared} {obj:Obj},s'.heap.get? D=some obj→H' D=none→(∀ v,obj.data ≠ .cell v)→∀ p ∈ [(D,obj)],s'.heap.get? p.1=some p.2∧H' p.1=none∧p.1 ≠ (cxC X ts M scope C fp s H).env.locals∧p.1 ∉ (cxC X ts M scope C fp s H).fs∧∀ v,p.2.data ≠ .cell v:=by
     intro H' s' obj e1 e2 e3 p hp
     have hp:p=(D,obj):=by simpa using hp
     subst hp
     refine⟨e1,e2,hDC,fun z=> ?_,e3⟩
     have z:D ∈ frs X.stack:=z
     rcases List.mem_cons.mp (I.stkSub D z)with e | e
     · have: @LT.lt Nat _ X.env.locals s.heap.objs.size:=I.lt
       have e: @Eq Nat D X.env.locals:=e
       omega
     · exact I.nofs (a:=D) (by omega) e
   have I1':=I1.pins_of (pinD hl1 hD1 fun v z=>by cases z)
   have fpk:∀ {H':Hp},(∀ b ∈ fp,H' b=none)→∀ b ∈ fp,qei (cxC X ts M scope C fp s H) [(D,{ cls:=.type "list",data:=.seq its.toArray k })] H' b:=fun {H'} fr b hb=>by
     refine⟨fr b hb,fun z=> ?_,I1.ok.exfs b hb,.inl hb,fun x a h=> ?_,fun p hp=> ?_⟩
     · have: @LT.lt Nat _ b s.heap.objs.size:=fpo b hb
       have z: @Eq Nat b C:=z
       omega
     · rcases qam h with h | ⟨_,h⟩
       · have h1:=(hO.empty _ _ h).2
         have h2: @LT.lt Nat _ b s.heap.objs.size:=fpo b hb
         exact Nat.ne_of_gt (by omega)
       · exact(f0 b hb).2.2.2.2.1 x a (qel (c.has I.ok) h)
     · have hp:p=(D,{ cls:=.type "list",data:=.seq its.toArray k }):=by simpa [cxC]using hp
       subst hp
       rintro rfl
       exact nDfp hb
   rcases hturn with ⟨stop,fin⟩ | ⟨go,N,hN,step⟩
   · refine wpAny_mono (T.done (cxC X ts M scope C fp s H) rfl rfl rfl hc i _ s1 σ1 H1 (fun _ _=>False) I1' (fpk fr1) t1 stop) (fun r s2 ⟨hr,I2⟩=> ?_) fun _ _ z=>z
     subst hr
     have pD:=I2.pin (D,{ cls:=.type "list",data:=.seq its.toArray k }) (by simp)
     obtain ⟨m2,hn2,_⟩:=I2.loc
     refine hRR D C H1 s2 ys m2 (I.comped f0 I2 (by omega) hD1 (by omega) rv1 pD.1) hn2 ?_ (fun x a h=> ?_) ?_ ?_ (fun p hp=> ?_) hD1 fin
     · have: @LT.lt Nat _ X.env.locals s.heap.objs.size:=I.lt
       exact Nat.ne_of_gt (by omega)
     · obtain ⟨v,q⟩:=I.cell x a h
       have: @LT.lt Nat _ a s.heap.objs.size:=q.lt
       exact Nat.ne_of_lt (by omega)
     · have:=I.sz;omega
     · rw[qc (Ne.symm hDC)];exact I2.free
     · have: @LT.lt Nat _ p.1 s.heap.objs.size:=Heap.lt_size (I.pin p hp).1
       exact Nat.ne_of_lt (by omega)
   · refine wpAny_mono (T.item (cxC X ts M scope C fp s H) rfl rfl rfl hc i _ s1 σ1 H1 (fun _ _=>False) I1' (fpk fr1) t1 go) (fun r s2 ⟨u,hr,h2⟩=> ?_) fun _ _ z=>z
     subst hr
     refine wpAny_mono h2 (fun _ s3 ⟨x,H3,I3,r3,y3,t3,fr3⟩=> ?_) fun _ _ z=>z
     have I3':Inv (cxC X ts M scope C fp s H) _ (List.replicate ts.length none++σ) H3 s3:=(I3.pinned (fpk fr3) (T.obj _ _ t3)).weak (by
         have:=I3.len
         have e:σ1.length=(ts++M).length:=I3.len
         rw[List.length_append,List.length_replicate,I.len,e,List.length_append,c.len]) (fun j v e=>by
         have hj:ts.length≤j:=by
           rcases Nat.lt_or_ge j ts.length with z | z
           · rw[List.getElem?_append_left (by simpa using z),List.getElem?_replicate]at e
             split at e <;> cases e
           · exact z
         rw[List.getElem?_append_right (by simpa using hj)]at e
         rw[← d1,List.getElem?_drop]at e
         simp only [List.length_replicate]at e
         rwa [show ts.length+(j - ts.length)=j by omega]at e)
     refine wpAny_mono (hg C fp s H _ s3 _ H3 x u _ I3' r3 (step x H3 y3)) (fun _ s4 ⟨σ4,H4,I4,d4,q4⟩=> ?_) fun _ _ z=>z
     refine wpAny_mono (hf C fp s H _ s4 σ4 H4 _ I4 q4) (fun ok s5 ⟨H5,I5,q5⟩=> ?_) fun _ _ z=>z
     have keepT:∀ {σ7:St} {H7:Hp} {s7:Shared} {o7:Obj},Inv (cxC X ts M scope C fp s H) ((D,o7)::qej fp s3.heap) σ7 H7 s7→tn (i+1) s7.heap∧(∀ b ∈ fp,H7 b=none):=fun {σ7 H7 s7 o7} I7 =>
       ⟨T.keep _ _ _ t3 fun b hb o e=>(I7.pin (b,o) (List.mem_append_right _ (List.mem_cons_of_mem _ (qat hb e)))).1,fun b hb=>by
         obtain ⟨o,e,_⟩:=T.obj _ _ t3 b hb
         exact(I7.pin (b,o) (List.mem_append_right _ (List.mem_cons_of_mem _ (qat hb e)))).2.1⟩
     cases ok with
     | false =>
       rw[if_neg Bool.false_ne_true]at q5 ⊢
       obtain ⟨m',hm,w'⟩:=hN _ _ q5
       have pD:=I5.pin (D,{ cls:=.type "list",data:=.seq its.toArray k }) (by simp)
       exact⟨m',hm,i+1,σ4,H5,ys,its,k,I5.pins_of (fun p hp=>by simp at hp),d4,(keepT I5).1,(keepT I5).2,pD.2.1,pD.1,rv1,w'⟩
     | true =>
       rw[if_pos rfl]at q5 ⊢
       refine wpAny_mono (hi2 C fp s H _ s5 σ4 H5 _ I5 q5) (fun v s6 h6=> ?_) fun _ _ z=>z
       refine wpAny_mono h6 (fun itv s7 h7=> ?_) fun _ _ z=>z
       obtain ⟨it2,fp2,tn2,J2,H7,rfl,I7,T2,t02,f02,hw2⟩:=h7
       have hDf:D ∉ (cxC X ts M scope C fp s H).fs:=(pinD hl1 hD1 (fun v z=>by cases z) (D,{ cls:=.type "list",data:=.seq its.toArray k }) (by simp)).2.2.2.1
       refine q0c (Y:=cxC X ts M scope C fp s H) (D:=D) (pins0:=qej fp s3.heap) (n:=n2) (σ1:=σ4.drop n2) (its0:=its) (k0:=k) hc rfl rfl (hg2 C fp s H) (hf2 C fp s H) (he C fp s H) hDC (by show s.heap.objs.size≤D;omega) (fun x a h=>neC x a h) (fun p hp z=>nDfp (z ▸ (qos hp).1)) hDf
         (by show n2≤(ts++M).length;rw[List.length_append];omega) I7 rfl T2 t02 f02 rv1 hw2 ?_
       intro σ8 H8 s8 ys8 its8 k8 I8 d8 rv8 n8
       obtain ⟨m',hm,w'⟩:=hN _ _ n8
       have pD:=I8.pin (D,{ cls:=.type "list",data:=.seq its8.toArray k8 }) (by simp)
       refine⟨m',hm,i+1,σ8,H8,ys8,its8,k8,I8.pins_of (fun p hp=>by simp at hp),?_,(keepT I8).1,(keepT I8).2,pD.2.1,pD.1,rv8,w'⟩
       have e1:σ8.drop ts.length=(σ8.drop n2).drop (ts.length - n2):=by rw[List.drop_drop];congr 1;omega
       rw[e1,d8,List.drop_drop,show n2+(ts.length - n2)=ts.length by omega]
       exact d4
 exact codeAny_compStart_list loop (T.self _ 0 _ _ _ (T.keep _ _ _ t0 fun b _ o e=>old b o e) loop)
theorem q8f {tg iter t2 i2 elt:Expr} {ifs f2:List Expr} {pos:Pos} {wi wi2:TI} {g g2:TG} {tt tt2:TT} {te:TE} {n2:Nat} (hn2:n2≤ts.length) (c:qax X ts M scope) (hc:X.calm=true) (hi:PI X tg iter wi) (hg:∀ C fp s₀ H₀,PG (cxC X ts M scope C fp s₀ H₀) tg g) (hf:∀ C fp s₀ H₀,PF (cxC X ts M scope C fp s₀ H₀) ifs tt)
   (hi2:∀ C fp s₀ H₀,PI (cxC X ts M scope C fp s₀ H₀) t2 i2 wi2) (hg2:∀ C fp s₀ H₀,PG (cxC X ts M scope C fp s₀ H₀) t2 g2) (hf2:∀ C fp s₀ H₀,PF (cxC X ts M scope C fp s₀ H₀) f2 tt2)
   (he:∀ C fp s₀ H₀,PE (cxC X ts M scope C fp s₀ H₀) elt te) (hs:∀ x,foldedSetIterable iter X.env x=pure x:=by intro _;rfl) (hs2:∀ env x,foldedSetIterable i2 env x=pure x:=by intro _ _;rfl):PE X (.ListComp elt [⟨tg,iter,ifs,0⟩,⟨t2,i2,f2,0⟩] scope pos) (tLC2 ts.length n2 wi g tt wi2 g2 tt2 te):=by
 intro pins s σ H Q I h
 rw[eval_ListComp]
 refine wpAny_comprehension_free (use:=none) rfl hs (qlm (c.has I.ok)) c.kind c.loc (thn (hi pins s σ H _ I h) fun v s1 h1=>thn h1 fun itv s2 h2=> ?_)
 obtain ⟨it,fp,tn,J,H2,rfl,I2,T,t0,f0,hw⟩:=h2
 refine qyc (RR:=fun acc C=>compPost (model X.prog X.w) X.A X.xe none (EP X pins σ Q) acc C) hn2 c hc hg hf hi2 hg2 hf2 he hs2 I2 T t0 f0 hw ?_
 intro D C H' s' ys m I' hn n1 n2 n3 n4 n5 hD fin
 exact⟨m,hn,fun h' hs'=>⟨.ref D,_,I'.turned (t':=s'.toks) (fun b o hb e=>(hs'.2 b hb).trans e) n4 n1 (.inr n3) n2 n5,rfl,fin D hD⟩⟩
end
end L2
namespace T3
open PySem PySem.Spec PyProof.Rows L2
noncomputable def qky (src:Src) (n n2:Nat) (hd:D→Env→M Env) (fi2:MI) (hd2:D→Env→M Env) (cond2:Env→M Bool) (elt:Env→M D) (Γ:Env):List D→List D→M (List D)
 | acc,[]=>M.bind (guard src) fun _=>M.pure acc
 | acc,d::ds=>M.bind (guard src) fun _=>M.bind (hd d (List.replicate n none++Γ)) fun Γ1=>M.bind (fi2 Γ1) fun r =>
   if decide (acc.length+r.1.length < sizeLine)then M.bind (lcA r.2 n2 hd2 cond2 elt (Γ1.drop n2) acc r.1) fun acc'=>(if decide (acc'.length < sizeLine)then qky src n n2 hd fi2 hd2 cond2 elt Γ acc' ds else M.fail)else M.fail
noncomputable def q8g (n n2:Nat) (fi:MI) (hd:D→Env→M Env) (fi2:MI) (hd2:D→Env→M Env) (cond2:Env→M Bool) (elt:Env→M D) (Γ:Env):M D :=
 M.bind (fi Γ) fun r=>M.bind (noErr (qky r.2 n n2 hd fi2 hd2 cond2 elt Γ [] r.1)) fun ds=>M.pure (.lst ds)
section
variable {X:Cx} {E E2:XW} {tg it t2 i2 elt:Expr} {f2:List Expr} {fe:Env→M D} {pos:Pos} {fi fi2:MI} {cond2:Env→M Bool} {T T2:List Nat} {hd hd2:D→Env→M Env} {ts Mk:List Str} {scope:Scope}
theorem Rel.drop {w:Wd} {H:Hp} {σ:St} {Γ:Env} (r:Rel w H σ Γ) (n:Nat):Rel w H (σ.drop n) (Γ.drop n):=by
 refine⟨by simp [r.len],fun i d e=> ?_⟩
 rw[List.getElem?_drop]at e ⊢
 exact r.at_ _ d e
theorem q8h {w:Wd} {H:Hp} {σ:St} {Γ:Env} {S:Sto} {src:Src} {items:List D} {J:It} {P:List D→Sto→Wd→Hp→Prop} {n:Nat} {acc0:List D} {ys0:List V} (hT:∀ i ∈ T2,i < n) (hk:qaj hd2) (rel:Rel w H σ Γ) (hold:qe w H S) (r0:qb w H acc0 ys0) (wk:Walks J w H src items) (hz:acc0.length+items.length < sizeLine)
   (q:Wp E2 w H (lcA src n hd2 cond2 fe Γ acc0 items S) P) {Fin:List V→Hp→Prop} (hf:∀ ds vs S' w' H',Le w H w' H'→qe w' H' S'→qb w' H' ds vs→P ds S' w' H'→Fin vs H'):LcI J n (tG E2 T2 hd2) (tB E2 cond2) (tD E2 fe) σ H ys0 Fin:=by
 refine⟨fun i m ys H'=>∃ w' S' acc,m=items.length - i∧Le w H w' H'∧qe w' H' S'∧qb w' H' acc ys∧acc.length≤acc0.length+i∧i≤items.length∧Wp E2 w' H' (lcA src n hd2 cond2 fe Γ acc (items.drop i) S') P,⟨_,w,S,acc0,rfl,Le.refl _ _,hold,r0,by omega,Nat.zero_le _,q⟩,?_⟩
 rintro i m ys H' ⟨w',S',acc,rfl,l,hh,r,hl,hi,q⟩
 refine⟨by rw[← r.length];omega,?_⟩
 by_cases hi':i < items.length
 · right
   rw[List.drop_eq_getElem_cons hi',lcA]at q
   obtain ⟨so,q⟩:=qa5 q
   refine⟨wk.go w' H' S' i l hh so hi',_,fun ys' H'' z=>⟨items.length - (i+1),by omega,z⟩,fun x H'' y=> ?_⟩
   obtain ⟨w3,d,e3,l3,h3,r3⟩:=wk.yld w' H' S' i x H'' l hh so hi' y
   have:d=items[i]:=by rw[List.getElem?_eq_getElem hi']at e3;exact(Option.some.inj e3).symm
   subst this
   have q3:=Wp.bind (q.later l3)
   refine⟨w3,items[i],_,S',(rel.mono (l.trans l3)).cons n,h3,r3,?_⟩
   cases e4:hd2 items[i] (List.replicate n none++Γ) S' with
   | no=>rw[e4]at q3;exact q3
   | err x S4=>rw[e4]at q3;exact q3
   | ok Γ4 S4 =>
     rw[e4]at q3
     have hlen:Γ4.length=n+Γ.length:=by rw[hk _ _ _ _ _ e4];simp
     intro w4 H4 l4 h4 σ4 rel4 b4
     have q4:=q3 w4 H4 l4 h4
     refine⟨rel4.undrop hT b4 (by rw[← rel4.len,hlen,rel.len]),?_⟩
     refine qc3 (k:=fun b Γ1=>if b=true then M.bind (fe Γ1) fun y=>lcA src n hd2 cond2 fe Γ (acc++[y]) (items.drop (i+1))else lcA src n hd2 cond2 fe Γ acc (items.drop (i+1))) rel4 h4 q4 fun bb S5 w5 H5 l5 rel5 h5 q5=> ?_
     have ll:=(l.trans l3).trans (l4.trans l5)
     have rr:=r.mono (l3.trans (l4.trans l5))
     cases bb with
     | true =>
       rw[if_pos rfl]
       refine qd (k:=fun y _=>lcA src n hd2 cond2 fe Γ (acc++[y]) (items.drop (i+1))) rel5 h5 q5 fun dy yv S6 w6 H6 l6 rel6 h6 ry q6=> ?_
       exact⟨w6,S6,acc++[dy],rfl,ll.trans l6,h6,(rr.mono l6).append (qb.one ry),by simp;omega,hi',q6⟩
     | false =>
       rw[if_neg Bool.false_ne_true]
       exact⟨w5,S5,acc,rfl,ll,h5,rr,by omega,hi',q5⟩
 · left
   have:i=items.length:=by omega
   subst this
   rw[List.drop_length,lcA]at q
   obtain ⟨so,q⟩:=qa5 q
   exact⟨wk.stop w' H' S' l hh so,hf acc ys S' w' H' l hh r (q _ _ (Le.refl _ _) hh)⟩
theorem q8i {w:Wd} {H:Hp} {σ:St} {Γ:Env} {S:Sto} {src:Src} {items:List D} {J:It} {P:List D→Sto→Wd→Hp→Prop} {n n2:Nat} (hT:∀ i ∈ T,i < n) (hk:qaj hd) (hT2:∀ i ∈ T2,i < n2) (hk2:qaj hd2) (rel:Rel w H σ Γ) (hold:qe w H S) (wk:Walks J w H src items)
   (q:Wp E2 w H (qky src n n2 hd fi2 hd2 cond2 fe Γ [] items S) P) {Fin:List V→Hp→Prop} (hf:∀ ds vs S' w' H',Le w H w' H'→qe w' H' S'→qb w' H' ds vs→P ds S' w' H'→Fin vs H'):LcO J n n2 (tG E2 T hd) (tB E2 fun _=>M.pure true) (tI E2 fi2) (tG E2 T2 hd2) (tB E2 cond2) (tD E2 fe) σ H Fin:=by
 refine⟨fun i m ys H'=>∃ w' S' acc,m=items.length - i∧Le w H w' H'∧qe w' H' S'∧qb w' H' acc ys∧acc.length < sizeLine∧i≤items.length∧Wp E2 w' H' (qky src n n2 hd fi2 hd2 cond2 fe Γ acc (items.drop i) S') P,⟨_,w,S,[],rfl,Le.refl _ _,hold,rfl,by rw[sizeLine_eq];decide,Nat.zero_le _,q⟩,?_⟩
 rintro i m ys H' ⟨w',S',acc,rfl,l,hh,r,hl,hi,q⟩
 refine⟨by rw[← r.length];exact hl,?_⟩
 by_cases hi':i < items.length
 · right
   rw[List.drop_eq_getElem_cons hi',qky]at q
   obtain ⟨so,q⟩:=qa5 q
   refine⟨wk.go w' H' S' i l hh so hi',_,fun ys' H'' z=>⟨items.length - (i+1),by omega,z⟩,fun x H'' y=> ?_⟩
   obtain ⟨w3,d,e3,l3,h3,r3⟩:=wk.yld w' H' S' i x H'' l hh so hi' y
   have:d=items[i]:=by rw[List.getElem?_eq_getElem hi']at e3;exact(Option.some.inj e3).symm
   subst this
   have q3:=Wp.bind (q.later l3)
   refine⟨w3,items[i],_,S',(rel.mono (l.trans l3)).cons n,h3,r3,?_⟩
   cases e4:hd items[i] (List.replicate n none++Γ) S' with
   | no=>rw[e4]at q3;exact q3
   | err x S4=>rw[e4]at q3;exact q3
   | ok Γ4 S4 =>
     rw[e4]at q3
     have hlen:Γ4.length=n+Γ.length:=by rw[hk _ _ _ _ _ e4];simp
     intro w4 H4 l4 h4 σ4 rel4 b4
     have q4:=q3 w4 H4 l4 h4
     refine⟨rel4.undrop hT b4 (by rw[← rel4.len,hlen,rel.len]),?_⟩
     refine⟨w4,Γ4,S4,rel4,h4,fun w5 H5 l5 h5=> ?_⟩
     dsimp only
     rw[if_pos rfl]
     refine⟨w5,Γ4,S4,rel4.mono l5,h5,(Wp.bind (q4.later l5)).mono fun r2 S6 w6 H6 l6 h6 q6 J2 wk2=> ?_⟩
     obtain ⟨hz,q6⟩:=Wp.iteF q6
     have ll:=(l.trans l3).trans (l4.trans (l5.trans l6))
     refine q8h hT2 hk2 ((rel4.mono (l5.trans l6)).drop n2) h6 (r.mono (l3.trans (l4.trans (l5.trans l6)))) wk2 (of_decide_eq_true hz) (Wp.bind q6) fun ds vs S7 w7 H7 l7 h7 rv q7=> ?_
     obtain ⟨hz7,q7⟩:=Wp.iteF q7
     exact⟨w7,S7,ds,rfl,ll.trans l7,h7,rv,of_decide_eq_true hz7,hi',q7⟩
 · left
   have:i=items.length:=by omega
   subst this
   rw[List.drop_length,qky]at q
   obtain ⟨so,q⟩:=qa5 q
   exact⟨wk.stop w' H' S' l hh so,hf acc ys S' w' H' l hh r (q _ _ (Le.refl _ _) hh)⟩
theorem qabn {n2:Nat} (hn2:n2≤ts.length) (cc:qax X ts Mk scope) (hc:X.calm=true) (hi:PI X tg it (tI E fi)) (hg:∀ C fp s₀ H₀,PG (cxC X ts Mk scope C fp s₀ H₀) tg (tG E2 T hd)) (hi2:∀ C fp s₀ H₀,PI (cxC X ts Mk scope C fp s₀ H₀) t2 i2 (tI E2 fi2))
   (hg2:∀ C fp s₀ H₀,PG (cxC X ts Mk scope C fp s₀ H₀) t2 (tG E2 T2 hd2)) (hf2:∀ C fp s₀ H₀,PF (cxC X ts Mk scope C fp s₀ H₀) f2 (tB E2 cond2))
   (he:∀ C fp s₀ H₀,PE (cxC X ts Mk scope C fp s₀ H₀) elt (tD E2 fe)) (hs:∀ x,foldedSetIterable it X.env x=pure x) (hs2:∀ env x,foldedSetIterable i2 env x=pure x) (hT:∀ i ∈ T,i < ts.length) (hk:qaj hd) (hT2:∀ i ∈ T2,i < n2) (hk2:qaj hd2) :
   PE X (.ListComp elt [⟨tg,it,[],0⟩,⟨t2,i2,f2,0⟩] scope pos) (tD E (q8g ts.length n2 fi hd fi2 hd2 cond2 fe)):=by
 refine PE.mono (q8f hn2 cc hc hi hg (fun _ _ _ _=>q48 (E:=E2)) hi2 hg2 hf2 he hs hs2) fun σ H Q ⟨w,Γ,S,rel,hold,q⟩=> ?_
 refine⟨w,Γ,S,rel,hold,(Wp.bind q).mono fun r S1 w1 H1 l1 h1 q1 J wk=> ?_⟩
 exact q8i hT hk hT2 hk2 (rel.mono l1) h1 wk (Wp.noErr (Wp.bind q1)) fun ds vs S' w' H' l' h' rv q' D hD=>qay (new:=false) h' rv q' hD
end
noncomputable def xw (E':XK):XW:=fun x _ H=>∀ dx vs,H dx=some (.xd (x.fs.zip vs))→(∃ w,qb w H x.xs vs)→E' (.ref x.C) (some dx) H
noncomputable abbrev Fd:=List D→M D
noncomputable def spT (n:Nat) (F:Fd):Sp:=fun vs H Q E'=>∃ w ds S,qb w H ds vs∧qe w H S∧ds.length=n∧Wp (xw E') w H (F ds S) (PV Q)
structure FnT (CX:CXT) (P:Program) (w:World) (K:PySem.W.Frag) (mg:Str→Option Value) (base:Heap) (x:Str) (n k:Nat) (F:Fd):Prop where
 ex:∃ (f:Addr) (fd:FuncData) (ps:List Str),qek P w K mg base CX k f fd ps (spT n F)∧mg x=some (.ref f)∧PySem.W.keepIn K (.ref f)=true∧Binds K fd ps []
noncomputable def qp (n:Nat) (F:Fd) (ds:List D):M D:=if ds.length=n then F ds else M.fail
section
variable {X:Cx} {CX:CXT} {E':XK} {x:Str} {n k k':Nat} {F:Fd} {p pos:Pos} {e:Expr} {es:List Expr} {fs:Env→M (List D)}
theorem q8j (G:FnT CX X.prog X.w X.K X.mg X.base x n k F) (hr:qcy k' X.A) (hk:k≤k') (hg:Gl X x) (hx:Passes CX X E') (ha:PA X (e::es) (tL (xw E') fs)) (hdb:(x==("__debug__":Str))=false)
   (he:starEach (e::es) X.env=(false,eval e X.env)::starEach es X.env) (hpl:(backTo pos (starEach es X.env)).any (·.1)=false):PE X (.Call (.Name x p) (e::es) [] pos) (tD (xw E') fun Γ=>M.bind (fs Γ) (qp n F)):=by
 obtain ⟨f,fd,ps,FO,hm,hkp,hb⟩:=G.ex
 refine PE.mono (qv4 FO (hr.mono hk) hg hm hkp hb .nil hx ha hdb he hpl) fun σ H Q ⟨w,Γ,S,rel,hold,q⟩=> ?_
 refine qb1 (k:=fun ds _=>qp n F ds) rel hold q fun ds vs S1 w1 H1 l1 rel1 h1 rv q1=> ?_
 unfold qp at q1
 by_cases hn:ds.length=n
 · rw[if_pos hn]at q1
   exact⟨w1,ds,S1,by rw[List.append_nil];exact rv,h1,hn,q1⟩
 · rw[if_neg hn]at q1;exact False.elim q1
theorem q3n (G:FnT CX X.prog X.w X.K X.mg X.base x 0 k F) (hr:qcy k' X.A) (hk:k≤k') (hg:Gl X x) (hx:Passes CX X E') (hdb:(x==("__debug__":Str))=false):PE X (.Call (.Name x p) [] [] pos) (tD (xw E') fun _=>F []):=by
 obtain ⟨f,fd,ps,FO,hm,hkp,hb⟩:=G.ex
 refine PE.mono (qzb FO (hr.mono hk) hg hm hkp hb .nil hx hdb) fun σ H Q ⟨w,Γ,S,rel,hold,q⟩=> ?_
 exact⟨w,[],S,rfl,hold,rfl,q⟩
end
noncomputable def qa9 (body:MS) (m:Nat) (ds:List D):M D:=fun S=>match body (ds.map some++List.replicate m none) S with
 | .ok (.rt d,_) S'=>.ok d S'
 | .ok (.nx,_) S'=>.ok .non S'
 | .ok _ _=>.no
 | .err x S'=>.err x S'
 | .no=>.no
section
variable {P:Program} {w:World} {K:PySem.W.Frag} {mg:Str→Option Value} {base:Heap}
theorem Rel.start {w:Wd} {H:Hp} {ds:List D} {vs:List V} {m:Nat} (r:qb w H ds vs):Rel w H (vs.map some++List.replicate m none) (ds.map some++List.replicate m none):=by
 refine⟨by simp [r.length],fun i d e=> ?_⟩
 by_cases hi:i < ds.length
 · rw[List.getElem?_append_left (by simpa using hi),List.getElem?_map]at e
   have e':ds[i]? =some d:=by
     cases q:ds[i]? with
     | none=>rw[q]at e;cases e
     | some d'=>rw[q]at e;simp at e;rw[e]
   obtain ⟨v,h1,h2⟩:=r.get e'
   refine⟨v,?_,h2⟩
   rw[List.getElem?_append_left (by simp;rw[← r.length];exact hi),List.getElem?_map,h1]
   rfl
 · rw[List.getElem?_append_right (by simp;omega)]at e
   simp only [List.length_map]at e
   rw[List.getElem?_replicate]at e
   split at e <;> cases e
theorem q8k {E:XW} {w:Wd} {H:Hp} {S:Sto} {body:MS} {m:Nat} {ds:List D} {Q:VK} (q:Wp E w H (qa9 body m ds S) (PV Q)):Wp E w H (body (ds.map some++List.replicate m none) S) (qcj { nx:=fun _ H'=>Q .non H',rt:=Q }):=by
 unfold qa9 at q
 cases e:body (ds.map some++List.replicate m none) S with
 | no=>rw[e]at q;exact q
 | err x S'=>rw[e]at q;exact q
 | ok r S' =>
   rw[e]at q
   obtain ⟨fl,Γ⟩:=r
   cases fl with
   | nx=>exact fun w' H' l h σ _=>q w' H' l h .non rfl
   | rt d=>exact fun w' H' l h v rv=>q w' H' l h v rv
   | bk=>exact False.elim q
   | ct=>exact False.elim q
theorem fn_T {x qual:Str} {st:Stmt} {f:Addr} {fd:FuncData} {N ps:List Str} {k:Nat} {body:MS} (F:Fun K x qual st f fd) (S:qc0 N ps (qf st))
   (hb:∀ (cdv:Value) (A:Around) (outer:List PySem.Env) (s:Shared) (H:Hp) (E:XK),qcy k (A.deeper (envOfC qual (qf st) s.heap.objs.size f cdv))→PSs (qno CX0 P w K mg base N qual (qf st) f cdv A outer s H E).nox (qa4 st) (tS (xw E) body)) :
   qek P w K mg base CX0 (k+1) f fd ps (spT ps.length (qa9 body (N.length - ps.length))):=by
 refine F.ok S (fun vs H Q E h=> ?_) (fun cdv A outer s H vs Q E hr h=> ?_)
 · obtain ⟨w,ds,S,r,_,e,_⟩:=h
   rw[← r.length];exact e
 · obtain ⟨w,ds,S,r,hold,e,q⟩:=h
   refine⟨_,hb cdv A outer s H E hr,w,_,S,?_,hold,q8k q⟩
   have:=Rel.start (m:=N.length - ps.length) r
   unfold L2.start
   rw[← r.length,e]
   exact this
end
mutual
noncomputable def frz:Nat→D→Sto→Option (D × Sto)
 | 0,d,S=>match d with
   | .ref _=>none
   | d=>some (d,S)
 | n + 1,d,S=>match d with
   | .ref l=>match S[l]? with
     | some (.lst xs)=>match frzs n xs S with
       | some (ys,S')=>some (.lst ys,S'.set l .gone)
       | none=>none
     | some (.dct ks xs)=>match frzs n xs S with
       | some (ys,S')=>some (.dct ks ys,S'.set l .gone)
       | none=>none
     | some (.obj C fs xs)=>match frzs n xs S with
       | some (ys,S')=>some (.obj C fs ys,S'.set l .gone)
       | none=>none
     | _=>none
   | d=>some (d,S)
noncomputable def frzs:Nat→List D→Sto→Option (List D × Sto)
 | _,[],S=>some ([],S)
 | n,d::ds,S=>match frz n d S with
   | some (e,S')=>match frzs n ds S' with
     | some (es,S'')=>some (e::es,S'')
     | none=>none
   | none=>none
end
noncomputable def qd8 (d:D):M D:=fun S=>match frz 3 d S with
 | some (e,S')=>.ok e S'
 | none=>.no
theorem qlb {n:Nat} {H:Hp} (hf:∀ {d e:D} {S S':Sto} {w:Wd} {v:V},frz n d S=some (e,S')→qe w H S→Rep w H d v→∃ w',Le w H w' H∧qe w' H S'∧Rep w' H e v) :
   ∀ {ds es:List D} {S S':Sto} {w:Wd} {vs:List V},frzs n ds S=some (es,S')→qe w H S→qb w H ds vs→∃ w',Le w H w' H∧qe w' H S'∧qb w' H es vs
 | [],es,S,S',w,vs,e,h,r=>by
   rw[frzs]at e
   cases e
   exact⟨w,Le.refl _ _,h,r⟩
 | d ::ds,es,S,S',w,vs,e,h,⟨v,u,ev,r,t⟩=>by
   rw[frzs]at e
   cases e1:frz n d S with
   | none=>rw[e1]at e;cases e
   | some p =>
     obtain ⟨d1,S1⟩:=p
     rw[e1]at e
     dsimp only at e
     cases e2:frzs n ds S1 with
     | none=>rw[e2]at e;cases e
     | some p =>
       obtain ⟨ds1,S2⟩:=p
       rw[e2]at e
       cases e
       obtain ⟨w1,l1,h1,r1⟩:=hf e1 h r
       obtain ⟨w2,l2,h2,r2⟩:=qlb hf e2 h1 (t.mono l1)
       exact⟨w2,l1.trans l2,h2,v,u,ev,r1.mono l2,r2⟩
theorem ql3 {H:Hp}:∀ {n:Nat} {d e:D} {S S':Sto} {w:Wd} {v:V},frz n d S=some (e,S')→qe w H S→Rep w H d v→∃ w',Le w H w' H∧qe w' H S'∧Rep w' H e v
 | 0,d,e,S,S',w,v,q,h,r=>by
   cases d <;> simp only [frz]at q <;> first | (cases q;done) | (cases q;exact⟨w,Le.refl _ _,h,r⟩)
 | n + 1,d,e,S,S',w,v,q,h,r=>by
   cases d <;> simp only [frz]at q <;> first | (cases q;exact⟨w,Le.refl _ _,h,r⟩) | skip
   case ref l =>
     obtain ⟨a,ea,rfl⟩:=r
     cases e0:S[l]? with
     | none=>rw[e0]at q;cases q
     | some c =>
       rw[e0]at q
       have ce:=h.cell l a c ea e0
       cases c with
       | gone=>cases q
       | lst xs =>
         dsimp only at q
         cases e1:frzs n xs S with
         | none=>rw[e1]at q;cases q
         | some p =>
           obtain ⟨ys,S1⟩:=p
           rw[e1]at q
           cases q
           obtain ⟨_,vs,k1,k2⟩:=ce
           obtain ⟨w1,l1,h1,r1⟩:=qlb (fun {d e S S' w v} q h r=>ql3 (n:=n) q h r) e1 h k2
           exact⟨w1.fix a,l1.trans (qdd w1 H a),qgl h1 (l1.at_ ea),a,vs,rfl,.inl rfl,k1,r1.mono (qdd w1 H a)⟩
       | dct ks xs =>
         dsimp only at q
         cases e1:frzs n xs S with
         | none=>rw[e1]at q;cases q
         | some p =>
           obtain ⟨ys,S1⟩:=p
           rw[e1]at q
           cases q
           obtain ⟨_,vs,k1,k3,k2⟩:=ce
           obtain ⟨w1,l1,h1,r1⟩:=qlb (fun {d e S S' w v} q h r=>ql3 (n:=n) q h r) e1 h k2
           exact⟨w1.fix a,l1.trans (qdd w1 H a),qgl h1 (l1.at_ ea),a,vs,rfl,.inl rfl,.inl k1,by rw[k3,k2.length,← r1.length],r1.mono (qdd w1 H a)⟩
       | obj C fs xs =>
         dsimp only at q
         cases e1:frzs n xs S with
         | none=>rw[e1]at q;cases q
         | some p =>
           obtain ⟨ys,S1⟩:=p
           rw[e1]at q
           cases q
           obtain ⟨_,dx,vs,k1,k3,k2⟩:=ce
           obtain ⟨w1,l1,h1,r1⟩:=qlb (fun {d e S S' w v} q h r=>ql3 (n:=n) q h r) e1 h k2
           exact⟨w1.fix a,l1.trans (qdd w1 H a),qgl h1 (l1.at_ ea),a,dx,vs,rfl,.inl rfl,k1,by rw[k3,k2.length,← r1.length],r1.mono (qdd w1 H a)⟩
theorem qabo {X:Cx} {E:XW} {e:Expr} {f:Env→M D} (h:PE X e (tD E f)):PE X e (tD E fun Γ=>M.bind (f Γ) qd8):=by
 refine PE.mono h fun σ H Q ⟨w,Γ,S,rel,hold,q⟩=> ?_
 refine qd (k:=fun d _=>qd8 d) rel hold q fun dx x S1 w1 H1 l1 rel1 h1 rx q1=> ?_
 unfold qd8 at q1
 cases e1:frz 3 dx S1 with
 | none=>rw[e1]at q1;exact False.elim q1
 | some p =>
   obtain ⟨d1,S2⟩:=p
   rw[e1]at q1
   obtain ⟨w2,l2,h2,r2⟩:=ql3 e1 h1 rx
   exact q1 w2 H1 l2 h2 x r2
noncomputable def ghS (i:Nat) (f:MS):MS:=fun Γ=>M.bind (qfg i Γ) fun x=>M.bind (qd8 x) fun d=>f (Γ.set i (some d))
theorem s_gh {X:Cx} {E:XW} {ss:List Stmt} {f:MS} {i:Nat} (h:PSs X ss (tS E f)):PSs X ss (tS E (ghS i f)):=by
 refine PSs.mono h fun D σ H ⟨w,Γ,S,rel,hold,q⟩=> ?_
 unfold ghS qfg at q
 cases e:Γ[i]? with
 | none=>rw[e]at q;exact False.elim q
 | some o =>
   cases o with
   | none=>rw[e]at q;exact False.elim q
   | some x =>
     rw[e]at q
     obtain ⟨v,hv,rv⟩:=rel.at_ i x e
     have q:Wp E w H (M.bind (qd8 x) (fun d=>f (Γ.set i (some d))) S) (qcj D):=q
     unfold M.bind qd8 at q
     cases e1:frz 3 x S with
     | none=>rw[e1]at q;exact False.elim q
     | some p =>
       obtain ⟨d1,S2⟩:=p
       rw[e1]at q
       obtain ⟨w2,l2,h2,r2⟩:=ql3 e1 hold rv
       refine⟨w2,Γ.set i (some d1),S2,?_,h2,Wp.later q l2⟩
       have:=(rel.mono l2).set (i:=i) r2
       have es:σ.set i (some v)=σ:=by
         obtain ⟨hl,e⟩:=List.getElem?_eq_some_iff.mp hv
         rw[← e];exact List.set_getElem_self hl
       rwa [es]at this
noncomputable def isL (d:D):Bool:=match d with
 | .lst _=>true
 | _=>false
noncomputable def isS (d:D):Bool:=match d with
 | .str _=>true
 | _=>false
noncomputable def mtD (isT:D→Bool) (f:Env→M D) (fs:Env→M (List D)) (k:D→List D→M D) (Γ:Env):M D:=M.bind (f Γ) fun o S=>(if isT (look o S)then M.bind (fs Γ) (k o)else M.fail) S
noncomputable def MtT (X:Cx) (id:String) (k:D→List D→M D):Prop:=∃ r:V→List V→Hp→VK→Prop,MtM X id r∧∀ (E:XW) w H S o ds x vs Q,qe w H S→Rep w H o x→qb w H ds vs→Wp E w H (k o ds S) (PV Q)→r x vs H Q
section
variable {X:Cx} {E:XW} {T id:String} {name:Str} {o e:Expr} {es:List Expr} {f:Env→M D} {fs:Env→M (List D)} {k:D→List D→M D} {apos cpos:Pos} {isT:D→Bool}
theorem qyd (pa:PlainAttrs T) (slot:Slot T name id) (hty:typeOf (.builtin id)=pure (.type "method_descriptor")) (hm:MtT X id k) (hT:∀ w H S d v,qe w H S→Rep w H d v→isT (look d S)=true→tyV X.K T v H) (ho:PE X o (tD E f)) (ha:PA X (e::es) (tL E fs))
   (hbase:attributeBase o name X.env (eval o X.env)=eval o X.env)
   (hfew:((backTo cpos (starEach (e::es) X.env)).all (fun x=> !x.1) && (backToKw cpos (keywordEach [] X.env)).all (fun x=>x.1.isSome) && decide ((e::es).length+([]:List Keyword).length+(if ([]:List Keyword).isEmpty then 0 else 1) < 30))=true)
   (hline:(apos.endLine==cpos.line)=true) (hs:starEach (e::es) X.env=(false,eval e X.env)::starEach es X.env) (hplain:(backTo cpos (starEach es X.env)).any (·.1)=false) :
   PE X (.Call (.Attribute o name apos) (e::es) [] cpos) (tD E (mtD isT f fs k)):=by
 obtain ⟨r,hmt,hk⟩:=hm
 refine PE.mono (qaaj pa slot hty hmt ho ha hbase hfew hline hs hplain) fun σ H Q ⟨w,Γ,S,rel,hold,q⟩=> ?_
 refine qd (k:=fun o Γ S=>(if isT (look o S)then M.bind (fs Γ) (k o)else M.fail) S) rel hold q fun dx x S1 w1 H1 l1 rel1 h1 rx q1=> ?_
 obtain ⟨ht,q1⟩:=Wp.iteF q1
 exact⟨hT w1 H1 S1 dx x h1 rx ht,qb1 (k:=fun ds _=>k dx ds) rel1 h1 q1 fun ds vs S2 w2 H2 l2 rel2 h2 rv q2=>hk E w2 H2 S2 dx ds x vs Q h2 (rx.mono l2) rv q2⟩
theorem qpb (pa:PlainAttrs T) (slot:Slot T name id) (hty:typeOf (.builtin id)=pure (.type "method_descriptor")) (hm:MtT X id k) (hT:∀ w H S d v,qe w H S→Rep w H d v→isT (look d S)=true→tyV X.K T v H) (ho:PE X o (tD E f))
   (hbase:attributeBase o name X.env (eval o X.env)=eval o X.env) (hline:(apos.endLine==cpos.line)=true) :
   PE X (.Call (.Attribute o name apos) [] [] cpos) (tD E (mtD isT f (fun _=>M.pure []) k)):=by
 obtain ⟨r,hmt,hk⟩:=hm
 refine PE.mono (q6o pa slot hty hmt ho hbase hline) fun σ H Q ⟨w,Γ,S,rel,hold,q⟩=> ?_
 refine qd (k:=fun o Γ S=>(if isT (look o S)then M.bind (M.pure []) (k o)else M.fail) S) rel hold q fun dx x S1 w1 H1 l1 rel1 h1 rx q1=> ?_
 obtain ⟨ht,q1⟩:=Wp.iteF q1
 exact⟨hT w1 H1 S1 dx x h1 rx ht,hk E w1 H1 S1 dx [] x [] Q h1 rx rfl q1⟩
theorem qnx (w:Wd) (H:Hp) (S:Sto) (d:D) (v:V) (h:qe w H S) (r:Rep w H d v) (e:isL (look d S)=true):tyV X.K "list" v H:=by
 cases e1:look d S <;> rw[e1]at e <;> first | (cases e;done) | skip
 obtain ⟨p,vs,rfl,hp,_⟩:=qj h r e1
 exact .inl ⟨rfl,vs,SqL.of hp⟩
theorem ty_S (w:Wd) (H:Hp) (S:Sto) (d:D) (v:V) (h:qe w H S) (r:Rep w H d v) (e:isS (look d S)=true):tyV X.K "str" v H:=by
 cases e1:look d S <;> rw[e1]at e <;> first | (cases e;done) | skip
 rw[qb0 r e1]
 rfl
noncomputable def qbs (o:D) (g:List D→Option (D × List D)):M D:=fun S=>match o with
 | .ref l=>match S[l]? with
   | some (.lst xs)=>match g xs with
     | some (d,ys)=>.ok d (S.set l (.lst ys))
     | none=>.no
   | _=>.no
 | _=>.no
theorem qf1 {w:Wd} {H:Hp} {S:Sto} {o:D} {x:V} {g:List D→Option (D × List D)} {Q:VK} (h:qe w H S) (r:Rep w H o x) (q:Wp E w H (qbs o g S) (PV Q)) :
   ∃ a xs vs d ys,x=.ref a∧H a=some (.lst vs)∧qb w H xs vs∧g xs=some (d,ys)∧∀ us,qb w H ys us→∀ v,Rep w H d v→Q v (upd H a (.lst us)):=by
 unfold qbs at q
 cases o <;> first | exact False.elim q | skip
 rename_i l
 dsimp only at q
 obtain ⟨a,ea,rfl⟩:=r
 cases e:S[l]? with
 | none=>rw[e]at q;exact False.elim q
 | some c =>
   rw[e]at q
   have ce:=h.cell l a c ea e
   cases c <;> first | exact False.elim q | skip
   rename_i xs
   dsimp only at q
   cases e1:g xs with
   | none=>rw[e1]at q;exact False.elim q
   | some p =>
     obtain ⟨d,ys⟩:=p
     rw[e1]at q
     obtain ⟨nz,vs,ha,hvs⟩:=ce
     exact⟨a,xs,vs,d,ys,rfl,ha,hvs,e1,fun us hu v rv=>q _ _ (qbm nz) (qgk h ea nz ⟨nz,us,qi,hu.mono (qbm nz)⟩) v (rv.mono (qbm nz))⟩
noncomputable def qqg (o:D) (ds:List D):M D:=match ds with
 | [d]=>qbs o fun xs=>if decide (xs.length < sizeLine)then some (.non,xs++[d])else none
 | _=>M.fail
theorem ql4:MtT X "list.append" qqg:=by
 refine⟨_,qxp,fun E w H S o ds x vs Q h r rv q=> ?_⟩
 unfold qqg at q
 split at q
 case h_2=>exact False.elim q
 case h_1 d =>
   obtain ⟨v,rfl,rd⟩:=rv.one_
   obtain ⟨a,xs,us,d',ys,rfl,ha,hus,e,k⟩:=qf1 h r q
   split at e
   · rename_i hz
     cases e
     exact⟨a,us,v,rfl,rfl,ha,by rw[← hus.length];exact of_decide_eq_true hz,k _ (hus.append (qb.one rd)) _ rfl⟩
   · cases e
noncomputable def qqh (o:D) (ds:List D):M D:=match ds with
 | [.int j,d]=>qbs o fun xs=>if decide (xs.length < sizeLine) && decide (0≤j) && decide (j≤xs.length)then some (.non,xs.take j.toNat++d::xs.drop j.toNat)else none
 | _=>M.fail
theorem ql5:MtT X "list.insert" qqh:=by
 refine⟨_,qx2,fun E w H S o ds x vs Q h r rv q=> ?_⟩
 unfold qqh at q
 split at q
 case h_2=>exact False.elim q
 case h_1 j d =>
   obtain ⟨v,v',rfl,rj,rd⟩:=rv.two_
   cases (show v=.int j from rj)
   obtain ⟨a,xs,us,d',ys,rfl,ha,hus,e,k⟩:=qf1 h r q
   split at e
   · rename_i hz
     rw[Bool.and_eq_true,Bool.and_eq_true]at hz
     cases e
     refine⟨a,us,j,v',rfl,rfl,of_decide_eq_true hz.1.2,?_,ha,by rw[← hus.length];exact of_decide_eq_true hz.1.1,k _ ((hus.take _).append (qb.cons rd (hus.drop _))) _ rfl⟩
     rw[← hus.length];exact of_decide_eq_true hz.2
   · cases e
noncomputable def q8l (o:D) (ds:List D):M D:=match ds with
 | []=>qbs o fun xs=>match xs.getLast? with
   | some d=>some (d,xs.dropLast)
   | none=>none
 | _=>M.fail
theorem qb.dropLast {w:Wd} {H:Hp} {ds:List D} {vs:List V} (h:qb w H ds vs):qb w H ds.dropLast vs.dropLast:=by
 rw[List.dropLast_eq_take,List.dropLast_eq_take,h.length]
 exact h.take _
theorem qwm:MtT X "list.pop" q8l:=by
 refine⟨_,q6p,fun E w H S o ds x vs Q h r rv q=> ?_⟩
 unfold q8l at q
 split at q
 case h_2=>exact False.elim q
 case h_1 =>
   cases rv.nil_
   obtain ⟨a,xs,us,d',ys,rfl,ha,hus,e,k⟩:=qf1 h r q
   split at e
   · rename_i d hd
     cases e
     rw[List.getLast?_eq_getElem?]at hd
     obtain ⟨y,e1,e2⟩:=hus.get hd
     exact⟨a,us,y,rfl,rfl,ha,by rw[← hus.length];exact e1,k _ hus.dropLast _ e2⟩
   · cases e
noncomputable def qu7 (o:D) (ds:List D):M D:=match ds with
 | []=>qbs o fun _=>some (.non,[])
 | _=>M.fail
theorem qpc:MtT X "list.clear" qu7:=by
 refine⟨_,qzg,fun E w H S o ds x vs Q h r rv q=> ?_⟩
 unfold qu7 at q
 split at q
 case h_2=>exact False.elim q
 case h_1 =>
   cases rv.nil_
   obtain ⟨a,xs,us,d',ys,rfl,ha,hus,e,k⟩:=qf1 h r q
   cases e
   exact⟨a,us,rfl,rfl,ha,k _ rfl _ rfl⟩
noncomputable def joinM (o:D) (ds:List D):M D:=match o,ds with
 | .str z,[d]=>fun S=>match look d S with
   | .lst xs=>match strsOf xs with
     | some ys=>(if decide ((ys.map (·.length)).sum+ys.length * z.length≤16777216)then M.pure (.str (PySem.Txt.join z ys))else M.fail) S
     | none=>.no
   | _=>.no
 | _,_=>M.fail
theorem qsr:MtT X "str.join" joinM:=by
 refine⟨_,q3b,fun E w H S o ds x vs Q h r rv q=> ?_⟩
 unfold joinM at q
 split at q
 case h_2=>exact False.elim q
 case h_1 z d =>
   obtain ⟨v,rfl,rd⟩:=rv.one_
   cases e1:look d S <;> rw[e1]at q <;> first | exact False.elim q | skip
   rename_i xs
   dsimp only at q
   cases e2:strsOf xs with
   | none=>rw[e2]at q;exact False.elim q
   | some ys =>
     rw[e2]at q
     obtain ⟨hz,q⟩:=Wp.iteF q
     obtain ⟨p,us,rfl,hp,hus⟩:=qj h rd e1
     exact⟨z,p,ys,r,rfl,by rw[← qlx e2 hus];exact SqL.of hp,of_decide_eq_true hz,now h (d:=.str _) rfl q⟩
end
noncomputable def qss (k:Int):List Int→Option Nat
 | []=>none
 | x::r=>if x=k then some 0 else (qss k r).map (·+1)
theorem qwn {k:Int}:∀ {ns:List Int} {j:Nat},qss k ns=some j→ns[j]? =some k∧∀ i < j,∀ x,ns[i]? =some x→x ≠ k
 | [],_,h=>by cases h
 | x ::r,j,h=>by
   unfold qss at h
   by_cases e:x=k
   · rw[if_pos e]at h;cases h
     exact⟨by simp [e],fun i hi=>by omega⟩
   · rw[if_neg e]at h
     cases e1:qss k r with
     | none=>rw[e1]at h;cases h
     | some m =>
       rw[e1]at h;cases h
       obtain ⟨a,b⟩:=qwn e1
       refine⟨by simpa using a,fun i hi y hy=> ?_⟩
       cases i with
       | zero=>simp at hy;subst hy;exact e
       | succ i=>exact b i (by simp at hi;omega) y (by simpa using hy)
section
variable {X:Cx}
noncomputable def q8m:V→List V→Hp→VK→Prop:=fun x vs H Q=>∃ (l:Addr) (ns:List Int) (k:Int) (j:Nat),x=.ref l∧vs=[.int k]∧H l=some (.lst (ns.map V.int))∧qss k ns=some j∧Q (.int j) H
noncomputable def isI (k:Int):Value→Bool
 | .int a _=>a==k
 | _=>false
theorem q0d:MtM X "list.index" q8m:=by
 intro pins s σ H x vs v us Q I rx rv h
 obtain ⟨l,ns,k,j,rfl,rfl,hH,hj,q⟩:=h
 cases rx
 obtain ⟨u,rfl,ru⟩:=rv.one
 obtain ⟨t,rfl⟩:=ru
 obtain ⟨z,its,n,r,hl,e⟩:=I.lstM hH
 obtain ⟨h1,h2⟩:=qwn hj
 have hs:sizeLine=16777216:=sizeLine_eq
 have at_:∀ (i:Nat) (y:Value),its[i]? =some y→∃ a t,ns[i]? =some a∧y=.int a t:=fun i y hy=>by
   have hi:i < (ns.map V.int).length:=by rw[hl];exact(List.getElem?_eq_some_iff.mp hy).1
   obtain ⟨y',hy',ry⟩:=r.get (List.getElem?_eq_getElem hi)
   rw[hy]at hy';cases hy'
   rw[List.getElem_map]at ry
   obtain ⟨t,rfl⟩:=ry
   exact⟨_,t,List.getElem?_eq_getElem (by simpa using hi),rfl⟩
 have hjl:j < its.length:=by
   have:=(List.getElem?_eq_some_iff.mp h1).1
   rw[← hl];simpa using this
 refine call_meets PySem.F.slot_list_index ⟨_,e,rfl⟩ PySem.F.entry_list_index (PySem.F.args_list_index_2 _ _) (MeetsSeq.list_index l its.toArray n (.int k t) (isI k) (fun y hy=> ?_) j (by simpa using hjl) (by rw[List.length_map]at z hl;omega) ?_ fun m hm hlt=> ?_) ⟨e,⟨.int j,H,I.tok _,⟨_,rfl⟩,q⟩⟩
 · obtain ⟨i,hi⟩:=List.getElem?_of_mem (by simpa using hy:y ∈ its)
   obtain ⟨a,t',_,rfl⟩:=at_ i y hi
   exact MeetsSeq.EqGives.int a k t' t
 · obtain ⟨a,t',ha,hy⟩:=at_ j its[j] (List.getElem?_eq_getElem hjl)
   rw[h1]at ha;cases ha
   show isI k its[j]=true
   rw[hy];simp [isI]
 · have hm:m < its.length:=by simpa using hm
   obtain ⟨a,t',ha,hy⟩:=at_ m its[m] (List.getElem?_eq_getElem hm)
   show isI k its[m]=false
   rw[hy];simp [isI]
   exact h2 m hlt a ha
noncomputable def qqi (o:D) (ds:List D):M D:=fun S=>match look o S,ds with
 | .lst xs,[.int k]=>match intsOf xs with
   | some ns=>match qss k ns with
     | some j=>.ok (.int j) S
     | none=>.no
   | none=>.no
 | _,_=>.no
theorem qpd:MtT X "list.index" qqi:=by
 refine⟨_,q0d,fun E w H S o ds x vs Q h r rv q=> ?_⟩
 unfold qqi at q
 split at q
 case h_2=>exact False.elim q
 case h_1 xs k e1 =>
   obtain ⟨v,rfl,rd⟩:=rv.one_
   cases e2:intsOf xs with
   | none=>rw[e2]at q;exact False.elim q
   | some ns =>
     rw[e2]at q
     dsimp only at q
     cases e3:qss k ns with
     | none=>rw[e3]at q;exact False.elim q
     | some j =>
       rw[e3]at q
       obtain ⟨p,us,rfl,hp,hus⟩:=qj h r e1
       cases (show v=.int k from rd)
       exact⟨p,ns,k,j,rfl,rfl,by rw[hp,qbr e2 hus],e3,now h (d:=.int _) rfl q⟩
end
noncomputable def notStar:Expr→Bool
 | .Starred _ _=>false
 | _=>true
noncomputable def qcw:Expr→Bool
 | .Set _ _ _=>false
 | _=>true
noncomputable def qd9:Expr→Bool
 | .Slice _ _ _ _=>false
 | _=>true
noncomputable def plainT:Expr→Bool
 | .UnaryOp _ _ _=>false
 | .BoolOp _ _ _=>false
 | .IfExp _ _ _ _=>false
 | .Compare _ _ _ _=>false
 | _=>true
noncomputable def ql6:Expr→Bool
 | .Call (.Name _ _) _ _ _=>false
 | _=>true
noncomputable def qf2:Expr→Bool
 | .ListComp _ _ _ _=>false
 | .SetComp _ _ _ _=>false
 | .DictComp _ _ _ _ _=>false
 | _=>true
noncomputable def qqj:Expr→Bool
 | .Tuple _ _ _=>false
 | .List _ _=>false
 | _=>true
theorem qao {e:Expr} {es:List Expr} {env:PySem.Env} (h:notStar e=true):starEach (e::es) env=(false,eval e env)::starEach es env:=by
 cases e <;> first | rfl | cases h
theorem ql7:∀ {es:List Expr} {env:PySem.Env},es.all notStar=true→(starEach es env).all (fun x=> !x.1)=true
 | [],_,_=>rfl
 | e::es,env,h=>by
   rw[List.all_cons,Bool.and_eq_true]at h
   rw[qao h.1,List.all_cons,ql7 h.2]
   rfl
theorem qst {pos:Pos} {l:List (Bool × Sem Value)} (h:l.all (fun x=> !x.1)=true):(backTo pos l).all (fun x=> !x.1)=true:=by
 unfold backTo
 rw[List.all_map]
 exact h
theorem ql8 {pos:Pos} {es:List Expr} {env:PySem.Env} (h:es.all notStar=true):(backTo pos (starEach es env)).any (·.1)=false:=by
 have:=qst (pos:=pos) (ql7 (env:=env) h)
 rw[List.any_eq_false]
 intro x hx
 have:=List.all_eq_true.mp this x hx
 simpa using this
theorem q8n {cpos:Pos} {e:Expr} {es:List Expr} {env:PySem.Env} (h:(e::es).all notStar=true) (hl:(e::es).length < 30) :
   ((backTo cpos (starEach (e::es) env)).all (fun x=> !x.1) && (backToKw cpos (keywordEach [] env)).all (fun x=>x.1.isSome) && decide ((e::es).length+([]:List Keyword).length+(if ([]:List Keyword).isEmpty then 0 else 1) < 30))=true:=by
 rw[qst (ql7 h)]
 simp only [keywordEach,backToKw,List.map_nil,List.all_nil,Bool.and_true,Bool.true_and,List.length_nil,List.isEmpty_nil,if_true,Nat.add_zero]
 exact decide_eq_true hl
theorem ql9 {op:CmpOp} {b:Expr} (h:qcw b=true):behindInMarks op b=false:=by
 cases b <;> first | rfl | cases h
theorem qpe {op op':CmpOp} {b c:Expr} (h:qcw c=true):lastMarks [op,op'] [b,c]=false:=by
 show behindInMarks op' c=false
 exact ql9 h
theorem q0e {b:Expr} (h:qd9 b=true):qp4 b:=by
 intro o i
 cases b <;> first | rfl | cases h
theorem q3o {a:Expr} {env:PySem.Env} (h:plainT a=true):∀ whole,isTrue a env whole=(do let v ← whole;standAt a.pos;holding [v] (truthy v)):=by
 intro whole
 cases a <;> first | rfl | cases h
theorem qbo {o:Expr} {name:Str} {env:PySem.Env} (h:ql6 o=true):attributeBase o name env (eval o env)=eval o env:=by
 unfold attributeBase
 cases o <;> first | rfl | skip
 rename_i fn args kw pos
 cases fn <;> first | rfl | cases h
theorem qcm {it:Expr} {env:PySem.Env} (h:qcw it=true):∀ x,foldedSetIterable it env x=pure x:=by
 intro x
 unfold foldedSetIterable
 cases it <;> first | rfl | cases h
theorem qma {e:Expr} {t:Option Expr} {n:Nat} {env:PySem.Env} (h:qf2 e=true):swapsWith e t n env=pure false:=by
 unfold swapsWith
 cases e <;> first | rfl | cases h
theorem qwo {e t:Expr} {n:Nat} {env:PySem.Env} (h:qf2 e=true):swapsWithSole [t] e n env=pure false:=qma h
theorem qye {t e:Expr} {env:PySem.Env} (h:(qqj t || qqj e)=true):swappedStores [t] e env=pure none:=by
 unfold swappedStores
 cases t <;> first | rfl | (cases e <;> first | rfl | cases h)
theorem qi7 {e:Expr} {es:List Expr} {env:PySem.Env} (h:notStar e=true):assignEach (e::es) env=(false,assign e env)::assignEach es env:=by
 cases e <;> first | rfl | cases h
theorem qpf:∀ {es:List Expr} {env:PySem.Env},(assignEach es env).length=es.length
 | [],_=>rfl
 | e::es,env=>by
   have:=qpf (es:=es) (env:=env)
   cases e <;> simp [assignEach,this]
theorem qsu:∀ {es:List Expr} {env:PySem.Env},es.all notStar=true→(assignEach es env).findIdx? (·.1)=none
 | [],_,_=>rfl
 | e::es,env,h=>by
   rw[List.all_cons,Bool.and_eq_true]at h
   rw[qi7 h.1,List.findIdx?_cons,qsu h.2]
   rfl
theorem q3p {o i:Expr} {pos:Pos} {env:PySem.Env} (h:qd9 i=true):∀ v,assign (.Subscript o i pos) env v=(do
     let ov ← holding [v] (eval o env)
     let iv ← holding [v,ov] (eval i env)
     standAt pos
     holding [v,ov,iv] (setItem ov iv v)
     release [v,ov,iv] []):=by
 intro v
 cases i <;> first | rfl | cases h
theorem q8o {i:Expr} (h:qd9 i=true):∀ ov iv new,augStore i ov iv new=(do holding [new,ov,iv] (setItem ov iv new);release [new,ov,iv] [];pure .next):=by
 intro ov iv new
 cases i <;> first | rfl | cases h
noncomputable def swB (sc:Scope) (scope:Scope) (vl tl:Nat) (x:Str):Bool :=
 (if sc.kind.isAnnotationScope then ScopeKind.function else sc.kind)==.function && sc.names.lookup x==some .local && tl==vl && !(scope.names.any fun (n,k)=>n==x && (k==.local || k==.cell))
theorem q0f {elt:Expr} {gens:List Comprehension} {scope:Scope} {pos p:Pos} {x:Str} {n:Nat} {env:PySem.Env}:swapsWith (.ListComp elt gens scope pos) (some (.Name x p)) n env=pure (swB env.scope scope pos.line p.line x):=rfl
theorem qwp {k v:Expr} {gens:List Comprehension} {scope:Scope} {pos p:Pos} {x:Str} {n:Nat} {env:PySem.Env}:swapsWith (.DictComp k v gens scope pos) (some (.Name x p)) n env=pure (swB env.scope scope pos.line p.line x):=rfl
noncomputable def q3q (sc:Scope) (x y:Str) (px py:Pos) (a b:Expr):Bool :=
 (if sc.kind.isAnnotationScope then ScopeKind.function else sc.kind)==.function && notStar a && notStar b && sc.names.lookup x==some .local && sc.names.lookup y==some .local && px.line==py.line && !(x==y) && !([a,b].all (foldedForSure 8)) && !([a,b].all (constantsAlone 8))
theorem q3r {x y:Str} {px py pt pt2:Pos} {a b:Expr} {kt k2:Nat} {env:PySem.Env} (h:q3q env.scope x y px py a b=true):swappedStores [.Tuple [.Name x px,.Name y py] kt pt] (.Tuple [a,b] k2 pt2) env=pure (some [x,y]):=by
 unfold q3q at h
 simp only [Bool.and_eq_true,Bool.not_eq_true']at h
 obtain ⟨⟨⟨⟨⟨⟨⟨⟨h1,h2⟩,h3⟩,h4⟩,h5⟩,h6⟩,h7⟩,h8⟩,h9⟩:=h
 unfold swappedStores
 have hk:env.blockKind=.function:=by simpa [Env.blockKind]using h1
 have hx:env.kindOf x=some .local:=by simpa [Env.kindOf]using h4
 have hy:env.kindOf y=some .local:=by simpa [Env.kindOf]using h5
 have hl:px.line=py.line:=by simpa using h6
 have hxy:x ≠ y:=by simpa using h7
 have hxy':(y==x)=false:=by simpa using Ne.symm hxy
 have pn:∀ (x:Str) (p:Pos),(Expr.Name x p).pos=p:=fun _ _=>rfl
 simp only [List.length_cons,List.length_nil,hk,bne_self_eq_false,Bool.or_false,List.any_cons,List.any_nil,List.head?_cons,Option.map_some,Option.getD_some,pn,List.filterMap_cons,List.filterMap_nil,hx,hy,hl,h8,h9]
 simp [List.eraseDups_cons,hxy']
 rintro (z | z)
 · exfalso
   clear h8 h9
   cases a <;> first | (cases z;done) | (cases h2;done)
 · exfalso
   clear h8 h9
   cases b <;> first | (cases z;done) | (cases h3;done)
end T3
namespace L2
open PySem PySem.Spec PyProof.Rows
section
variable {X:Cx} {pins:List (Addr × Obj)} {σ:St} {H:Hp} {s:Shared} {a:Addr} {kvs:List (Key × V)}
theorem Inv.fzd (I:Inv X pins σ H s) (h:Rd H a (.dK kvs)):∃ o,s.heap.get? a=some o∧∃ H',Inv X pins σ H' s∧H' a=some (.frz o (.dK kvs))∧(H' a=H a∨H a=some (.dK kvs))∧(∀ b,b ≠ a→H' b=H b):=by
 rcases h with h | ⟨o,h⟩
 · obtain ⟨z,hd,vs,rel,ob,es,ep,e,r⟩:=I.hok a _ h
   have nt:∀ b u,H b=some u→(∀ k,u ≠ .dK k)→b ≠ a:=fun b u hb hu z=>by subst z;rw[h]at hb;cases hb;exact hu _ rfl
   refine⟨ob,e,upd H a (.frz ob (.dK kvs)),?_,qi,.inr h,fun b hb=>qc hb⟩
   have ok:HOk X.prog X.w (upd H a (.frz ob (.dK kvs))) s.heap:=fun b u hb=>by
     by_cases hab:b=a
     · subst hab
       rw[qi]at hb
       cases hb
       exact⟨e,z,hd,vs,rel,ob,es,ep,e,r⟩
     · rw[qc hab]at hb
       exact(I.hok b u hb).stay (fun _ _ _ q=>q) (fun c hc=>by rw[qc (nt c _ hc (by intro k z;cases z))];exact hc) (fun c xs hc=>by rw[qc (nt c _ hc (by intro k z;cases z))];exact hc)
   exact I.un (h':=s.heap) (t':=s.toks) ⟨fun b o q _ _ _=>q,fun b o q _ _ _=>⟨o.slots,q⟩,fun b o _ n _=>by rw[qc (fun z=>by subst z;rw[h]at n;cases n)];exact n,fun b o q _=>⟨o,q⟩,
     fun b xs q=>by rw[qc (nt b _ q (by intro k z;cases z))];exact q,fun b o u q=>by rw[qc (nt b _ q (by intro k z;cases z))];exact q,fun b ps q=>⟨#[],by rw[qc (nt b _ q (by intro k z;cases z)),q];simp⟩⟩ ok
 · exact⟨o,(I.hok a _ h).1,H,I,h,.inl rfl,fun _ _=>rfl⟩
theorem Inv.dictAt {o:Obj} {es:Array DictEntry} {ep:Nat} (I:Inv X pins σ H s) (h:H a=some (.frz o (.dK kvs))) (hd:o.data=.dict es ep):∃ vs,KV kvs vs∧s.heap.DictAt (qm X.prog X.w) a vs ep:=by
 obtain ⟨e,_,_,vs,rel,ob,es',ep',e',x1,x2,x3⟩:=I.hok a _ h
 rw[e]at e';cases e'
 rw[hd]at x2
 cases x2
 exact⟨vs,rel,o,es,e,x1,hd,x3⟩
noncomputable def Itk (a:Addr) (o:Obj) (kvs:List (Key × V)):It :=
 ⟨fun i H=>H a=some (.frz o (.dK kvs))∧i < kvs.length,fun i H x H'=>H'=H∧∃ k v,kvs[i]? =some (k,v)∧x=kV k,fun i H=>H a=some (.frz o (.dK kvs))∧kvs.length≤i⟩
theorem qwq {P:Program} {w:World} {k:Key} {u:Value} (h:(qm P w).is k u=true):RelV (kV k) u:=by
 rw[qup]at h
 rcases qae h with ⟨i,t,rfl,rfl⟩ | ⟨x,t,rfl,rfl⟩
 · exact⟨t,rfl⟩
 · exact⟨t,rfl⟩
theorem KV.get {kvs:List (Key × V)} {vs:List (Key × Value)} (r:KV kvs vs) {i:Nat} {k:Key} {v:V} (h:kvs[i]? =some (k,v)):∃ u,vs[i]? =some (k,u)∧RelV v u:=by
 induction r generalizing i with
 | nil=>simp at h
 | @cons x y xs ys hr t ih =>
   cases i with
   | zero =>
     simp at h
     subst h
     obtain ⟨k',u⟩:=y
     obtain ⟨rfl,r⟩:=hr
     exact⟨u,rfl,r⟩
   | succ i =>
     obtain ⟨u,e,r⟩:=ih (by simpa using h)
     exact⟨u,by simpa using e,r⟩
theorem qyf {P:Program} {w:World} {K:PySem.W.Frag} {tg:Expr} {o:Obj} {es:Array DictEntry} {ep:Nat} (hd:o.data=.dict es ep) (it:Addr):Turn P w K tg (Itk a o kvs) [it] it (fun i h=>h.IsKeyIter it a i kvs.length ep) where
 mem:=by simp
 obj:=fun i h st b hb=>by
   have e:b=it:=by simpa using hb
   subst e
   obtain ⟨o,e,c,d⟩:=st
   exact⟨o,e,fun v z=>by rw[d]at z;cases z⟩
 keep:=fun i h h' st k=>st.at fun o e=>k it (by simp) o e
 item:=by
   intro X hP hw hK hc i pins s σ H E I hf st hg
   subst hP hw hK
   obtain ⟨hg,hi⟩:=hg
   obtain ⟨vs,rel,da⟩:=I.dictAt hg hd
   obtain ⟨⟨k,v⟩,hx⟩:∃ p,kvs[i]? =some p:=⟨_,List.getElem?_eq_getElem hi⟩
   obtain ⟨u,hu,ru⟩:=rel.get hx
   obtain ⟨f0,f1,f2,f3,f4,f5⟩:=hf it (by simp)
   rw[rel.length]at st
   refine wpAny_pyNext_dict_item st da hu fun key h' hkey st' sb=> ?_
   have I1:Inv X pins σ H { s with heap:=h' }:=I.turned (t':=s.toks) (fun b o hb e=>(sb.2 b hb).trans e) f0 f1 f3 f4 f5
   obtain ⟨o,e,c,d⟩:=id st'
   exact⟨key,rfl,qv1 (s:={ s with heap:=h' }) e c d (by decide) ⟨kV k,H,I1,qwq hkey,⟨rfl,k,v,hx,rfl⟩,by rw[rel.length];exact st',fun b hb=>(hf b hb).1⟩⟩
 done:=by
   intro X hP hw hK hc i pins s σ H E I hf st hg
   subst hP hw hK
   obtain ⟨hg,hi⟩:=hg
   obtain ⟨vs,rel,da⟩:=I.dictAt hg hd
   obtain ⟨f0,f1,f2,f3,f4,f5⟩:=hf it (by simp)
   rw[rel.length]at st hi
   exact wpAny_pyNext_dict_end (I.ok.hd hc) st da (List.getElem?_eq_none_iff.mpr hi) fun h' eb=>⟨rfl,I.turned (t':=s.toks) (fun b o hb e=>eb b o hb e) f0 f1 f3 f4 f5⟩
 self:=fun _ _ _ _ _ st h=>wpAny_pyIter_keyiter st h
noncomputable def qabq (tl:TE):TI:=fun σ H R=>tl σ H fun x H1=>∃ a kvs,x=.ref a∧Rd H1 a (.dK kvs)∧∀ o H2,H2 a=some (.frz o (.dK kvs))→(H2 a=H1 a∨H1 a=some (.dK kvs))→(∀ b,b ≠ a→H2 b=H1 b)→R (Itk a o kvs) H2
theorem q3s {tg l:Expr} {tl:TE} (hl:PE X l tl):PI X tg l (qabq tl):=by
 intro pins s σ H R I h
 refine thn (hl pins s σ H _ I h) fun v s1 ⟨x,H1,I1,r1,q1⟩=> ?_
 obtain ⟨a,kvs,e,hd,q⟩:=q1
 subst e
 cases r1
 obtain ⟨o,ho,H2,I2,e2,e4,e3⟩:=I1.fzd hd
 obtain ⟨_,_,hs,vs,rel,ob,es,ep,e',x1,x2,x3⟩:=I2.hok a _ e2
 rw[ho]at e';cases e'
 obtain ⟨vs,rel,da⟩:=I2.dictAt e2 x2
 refine wpAny_pyIter_dict hs da ?_
 refine⟨s1.heap.objs.size,[s1.heap.objs.size],_,_,H2,rfl,I2.kept (t':=s1.toks) fun b o e=>Heap.get?_push_of_some _ e,qyf (a:=a) (kvs:=kvs) x2 _,⟨_,Heap.get?_push_size _ rfl,rfl,by rw[rel.length];rfl⟩,fun b hb=> ?_,q o H2 e2 e4 e3⟩
 have e:b=s1.heap.objs.size:=by simpa using hb
 subst e
 exact I2.fpOk (Nat.le_refl _) (I2.hok.fresh (Nat.le_refl _))
end
theorem qqk {prog:Program} {w:World} {A:Around} {R:Result→Shared→Prop} {kx vx target iter:Expr} {ifs:List Expr} {scope:Scope} {pos:Pos} {it:Value} {D:Addr} {env:Env} {s:Shared} (I:Nat→Shared→Prop)
   (turn : ∀ n s,I n s→wpAny (model prog w) A (pyNext it) (fun r s₁=>match r with
     | none=>R (.ok .next) s₁
     | some v=>wpAny (model prog w) A (letOwnedTupleGo target it v) (fun _ s₁'=>wpAny (model prog w) A (assign target env v) (fun _ s₂ =>
         wpAny (model prog w) A (forIn ifs true fun c r=>if r=true then do let ok ← isTrue c env (eval c env);pure (ForInStep.yield ok)else pure (ForInStep.yield r)) (fun ok s₃ =>
           if ok=true then wpAny (model prog w) A (eval kx env) (fun x s₄=>wpAny (model prog w) A (eval vx env) (fun y s₅ =>
             wpAny (model prog w) A (dictSet D x y) (fun _ s₆=>∃ m,m < n∧I m s₆) (fun _ _=>False) s₅) (fun _ _=>False) s₄) (fun _ _=>False) s₃
           else ∃ m,m < n∧I m s₃) (fun _ _=>False) s₂) (fun _ _=>False) s₁') (fun _ _=>False) s₁) (fun _ _=>False) s)
   (n:Nat) (h:I n s) :
   codeAny (model prog w) A (.compLoop (.DictComp kx vx [⟨target,iter,ifs,0⟩] scope pos) 0 it (.ref D) env) R s:=by
 refine codeAny_loop rfl I (fun n s hI=> ?_) n h
 show wpAny _ A ((compTurn (.DictComp kx vx [⟨target,iter,ifs,0⟩] scope pos) 0 it (.ref D) env).onRaise (fun x=>do noteFrame x env;theTreesLotGoes x)) _ _ s
 refine wpAny_noted ?_
 rw[compTurn_dict]
 refine wpAny_bind (wpAny_standAt (wpAny_bind (wpAny_mono (turn n s hI) (fun r s₁ h₁=> ?_) fun _ _ h'=>h'.elim)))
 cases r with
 | none=>exact wpAny_pure h₁
 | some v =>
   refine wpAny_bind (wpAny_mono h₁ (fun _ s₁' h₁'=> ?_) fun _ _ h'=>h'.elim)
   refine wpAny_bind (wpAny_mono h₁' (fun _ s₂ h₂=>wpAny_bind (wpAny_mono h₂ (fun ok s₃ h₃=> ?_) fun _ _ h'=>h'.elim)) fun _ _ h'=>h'.elim)
   cases ok with
   | false=>exact wpAny_pure ⟨rfl,h₃⟩
   | true =>
     exact wpAny_bind (wpAny_bind (wpAny_mono h₃ (fun x s₄ h₄=>wpAny_bind (wpAny_holding (wpAny_mono h₄ (fun y s₅ h₅=>wpAny_bind (wpAny_standAt (wpAny_holding (wpAny_mono h₅ (fun _ s₆ h₆=>wpAny_pure ⟨rfl,h₆⟩) fun _ _ h'=>h'.elim)))) fun _ _ h'=>h'.elim))) fun _ _ h'=>h'.elim))
noncomputable def DcW (J:It) (n:Nat) (g:TG) (tt:TT) (tk tv:TE) (σ:St) (H1:Hp) (Fin:List (Key × V)→Hp→Prop):Prop :=
 ∃ W : Nat→Nat→List (Key × V)→Hp→Prop,(∃ m,W 0 m [] H1)∧∀ i m ys H,W i m ys H→ys.length < sizeLine ∧
   ((J.stop i H∧Fin ys H) ∨
    (J.go i H∧∃ N:List (Key × V)→Hp→Prop,(∀ ys' H',N ys' H'→∃ m',m' < m∧W (i+1) m' ys' H')∧∀ x H',J.yld i H x H'→g x (List.replicate n none++σ) H' fun σ2 H2=>σ2.drop n=σ∧tt σ2 H2 fun c H3 =>
       if c=true then tk σ2 H3 fun x H4=>tv σ2 H4 fun y H5=>∃ k,x=kV k∧N (putK ys k y) H5 else N ys H3))
noncomputable def tDC (n:Nat) (wi:TI) (g:TG) (tt:TT) (tk tv:TE):TE:=fun σ H Q=>wi σ H fun J H1=>DcW J n g tt tk tv σ H1 fun ys H'=>∀ D,H' D=none→Q (.ref D) (upd H' D (.dK ys))
section
variable {X:Cx} {pins:List (Addr × Obj)} {σ:St} {H:Hp} {s:Shared} {ts M:List Str} {scope:Scope} {fp:List Addr}
theorem qu8 {M:Model} {A:Around} {E:Value→Shared→Prop} {Q:Value→Shared→Prop} (h:Q (.ref s.heap.objs.size) { s with heap:=s.heap.push { cls:=.type "dict",data:=.dict #[] } }):wpAny M A newDict Q E s:=by
 unfold newDict
 exact wpAny_newObj_type h (by first | size_fits | decide | exact Nat.zero_le _)
theorem qi8 {P:Program} {w:World} {h h':Heap} {D:Addr} {its:List (Key × Value)} {o:Obj} (d:h.DictOf (qm P w) D its) (e:h.get? D=some o) (e':h'.get? D=some o):h'.DictOf (qm P w) D its:=by
 obtain ⟨o',es,ep,e1,r⟩:=d
 rw[e]at e1;cases e1
 exact⟨o,es,ep,e',r⟩
theorem q8p {D:Addr} (h:sysModules < D):(D==sysModules)=false:=by
 simp only [beq_eq_false_iff_ne];exact Nat.ne_of_gt h
theorem Inv.compedD {H':Hp} {s':Shared} {σ':St} {C D:Addr} {pins':List (Addr × Obj)} {o:HO} (I:Inv X pins σ H s) (hf:∀ b ∈ fp,qei X pins H b) (J:Inv (cxC X ts M scope C fp s H) pins' σ' H' s') (hD:s.heap.objs.size≤D) (hD0:H' D=none) (hn:qau X.prog X.w (upd H' D o) s'.heap D o):Inv X pins σ (upd H' D o) s':=by
 have u:=J.base
 have neD:∀ b o,s.heap.get? b=some o→b ≠ D:=fun b o e=>Nat.ne_of_lt (Nat.lt_of_lt_of_le (Heap.lt_size e) hD)
 have neH:∀ b o,H' b=some o→b ≠ D:=fun b o e z=>by rw[z,hD0]at e;cases e
 refine I.call' (ch:=fp) J.os ⟨u.keep,u.slot,fun b o e n hb=> ?_,u.there,fun b xs e=> ?_,fun b o w e=> ?_,fun b ps e=> ?_⟩ (fun b u e=> ?_) J.bare (fun b hb=>⟨(hf b hb).2.2.2.1,(hf b hb).2.1,(hf b hb).2.2.2.2.1,(hf b hb).2.2.2.2.2⟩)
 · rw[qc (neD b o e)];exact u.free b o e n hb
 · have q:=u.tups b xs e
   rw[qc (neH b _ q)];exact q
 · have q:=u.frzs b o w e
   rw[qc (neH b _ q)];exact q
 · obtain ⟨more,q⟩:=u.tbls b ps e
   exact⟨more,by rw[qc (neH b _ q)];exact q⟩
 · by_cases hb:b=D
   · subst hb
     rw[qi]at e;cases e
     exact hn
   · rw[qc hb]at e
     refine(J.hok b u e).stay (fun _ _ _ q=>q) (fun c q=> ?_) fun c xs q=> ?_
     · rw[qc (neH c _ q)];exact q
     · rw[qc (neH c _ q)];exact q
theorem qsv {tg iter kx vx:Expr} {ifs:List Expr} {pos:Pos} {g:TG} {tt:TT} {tk tv:TE} (c:qax X ts M scope) (hc:X.calm=true) (hg:∀ C fp s₀ H₀,PG (cxC X ts M scope C fp s₀ H₀) tg g) (hf:∀ C fp s₀ H₀,PF (cxC X ts M scope C fp s₀ H₀) ifs tt)
   (hk:∀ C fp s₀ H₀,PE (cxC X ts M scope C fp s₀ H₀) kx tk) (he:∀ C fp s₀ H₀,PE (cxC X ts M scope C fp s₀ H₀) vx tv) {it:Addr} {tn:Nat→Heap→Prop} {J:It} {Fin:List (Key × V)→Hp→Prop} (I:Inv X pins σ H s) (T:Turn X.prog X.w X.K tg J fp it tn) (t0:tn 0 s.heap) (f0:∀ b ∈ fp,qei X pins H b) (hw:DcW J ts.length g tt tk tv σ H Fin)
   {RR:Value→Addr→Result→Shared→Prop}
   (hRR:∀ (D C:Addr) (H':Hp) (s':Shared) (ys:List (Key × V)) (m:Str→Option Value),Inv X pins σ (upd H' D (.dK ys)) s'→s'.heap.Ns C m→C ≠ X.env.locals→(∀ x a,X.env.cells.lookup x=some a→a ≠ C)→X.s₀.heap.objs.size≤C→upd H' D (.dK ys) C=none→(∀ p ∈ X.pn++pins,p.1 ≠ C)→H' D=none→Fin ys H'→RR (.ref D) C (.ok .next) s') :
   wpAny (model X.prog X.w) X.A newDict (fun acc s₃=>wpAny (model X.prog X.w) X.A (newFunctionEnv scope X.env.globals (clo scope X.env) [] X.env.qual none .none (some X.env)) (fun cenv s₄ =>
     codeAny (model X.prog X.w) X.A (.compStart (.DictComp kx vx [⟨tg,iter,ifs,0⟩] scope pos) 0 (.ref it) acc { cenv with scope:=relabel scope X.env }) (RR acc cenv.locals) s₄) X.xe s₃) X.xe s:=by
 obtain ⟨W,⟨m0,w0⟩,turn⟩:=hw
 have fpo:∀ b ∈ fp,b < s.heap.objs.size:=fun b hb=>by obtain ⟨o,e,_⟩:=T.obj _ _ t0 b hb;exact Heap.lt_size e
 refine qu8 (qgj ?_)
 dsimp only
 generalize hH2:s.heap.push { cls:=.type "dict",data:=.dict #[] }=h2
 have hCs:h2.objs.size=s.heap.objs.size+1:=by rw[← hH2,Heap.size_push]
 obtain ⟨C,hCe⟩:∃ C:Nat,h2.objs.size=C:=⟨_,rfl⟩
 obtain ⟨D,hDe⟩:∃ D:Nat,s.heap.objs.size=D:=⟨_,rfl⟩
 have hns₁:=(Heap.Ns.new h2 (.type "dict")).keeps (pushCells_keeps scope.names (h2.push { cls:=.type "dict",data:=.dict #[] }))
 have ok:=cellsFrom_ok scope.names (h2.push { cls:=.type "dict",data:=.dict #[] }) (h2.objs.size+1) [] ⟨fun _ _ hm=>(nomatch hm),List.Pairwise.nil⟩ (by rw[Heap.size_push];exact Nat.le_refl _)
 rw[Heap.size_push]at ok
 rw[hCe]at hns₁ ok ⊢
 rw[hDe]
 rw[hCe,hDe]at hCs
 have hDC:D ≠ C:=by omega
 generalize hh1:pushCells (h2.push { cls:=.type "dict",data:=.dict #[] }) scope.names=h₁ at hns₁ ok ⊢
 have kp:∀ b o,h2.get? b=some o→h₁.get? b=some o:=fun b o e=>by rw[← hh1];exact pushCells_keeps _ _ b o (Heap.get?_push_of_some _ e)
 have old:∀ b u,s.heap.get? b=some u→h₁.get? b=some u:=fun b u e=>kp b u (hH2 ▸ Heap.get?_push_of_some _ e)
 have hacc:h₁.DictOf (qm X.prog X.w) D []:=by
   obtain ⟨o,es,ep,ho,r⟩:=Heap.DictOf.new (knd:=qm X.prog X.w) s.heap
   refine⟨o,es,ep,kp _ _ ?_,r⟩
   rw[← hH2,← hDe]
   exact ho
 have hns:h₁.Ns C fun _=>none:=hns₁
 have hO:q2x scope C h₁:=⟨fun x a h=>⟨(ok.empty x a h).1,(ok.empty x a h).2⟩,ok.apart⟩
 have J0:Inv (cxC X ts M scope C fp s H) [] (List.replicate ts.length none++σ) H { s with heap:=h₁,toks:=s.toks }:=I.comp c f0 fpo (by omega) hns hO old
 have hDn:H D=none:=I.hok.fresh (by omega)
 have hDs:sysModules < D:=by have q:=I.big;rw[hDe]at q;exact q
 have loop : codeAny (model X.prog X.w) X.A (.compLoop (.DictComp kx vx [⟨tg,iter,ifs,0⟩] scope pos) 0 (.ref it) (.ref D) (compEnvC scope (cellsFrom (C+1) scope.names (clo scope X.env)) C X.env)) (RR (.ref D) C) { s with heap:=h₁,toks:=s.toks }:=by
   refine qqk (fun n s'=>∃ (i:Nat) (σ':St) (H':Hp) (ys:List (Key × V)) (its:List (Key × Value)),Inv (cxC X ts M scope C fp s H) [] σ' H' s'∧σ'.drop ts.length=σ∧tn i s'.heap∧(∀ b ∈ fp,H' b=none)∧H' D=none∧s'.heap.DictOf (qm X.prog X.w) D its∧KV ys its∧W i n ys H') ?_ m0
     ⟨0,_,H,[],[],J0,by rw[List.drop_append,List.drop_of_length_le (by simp)];simp,T.keep _ _ _ t0 fun b _ o e=>old b o e,fun b hb=>(f0 b hb).1,hDn,hacc,.nil,w0⟩
   rintro n s1 ⟨i,σ1,H1,ys,its,I1,d1,t1,fr1,hD1,dd1,rv1,w1⟩
   obtain ⟨oD,esD,epD,hl1,xD,hdD,rD⟩:=id dd1
   obtain ⟨hz,hturn⟩:=turn i n ys H1 w1
   have nDfp:D ∉ fp:=fun z=>by have: @LT.lt Nat _ D s.heap.objs.size:=fpo D z;omega
   have neC:∀ x a,(cellsFrom (C+1) scope.names (clo scope X.env)).lookup x=some a→a ≠ D:=fun x a h z=>by
     have z: @Eq Nat a D:=z
     rcases qam h with h | ⟨_,h⟩
     · have:=(hO.empty _ _ h).2
       omega
     · obtain ⟨v,q⟩:=I.cell x a (qel (c.has I.ok) h)
       have: @LT.lt Nat _ a s.heap.objs.size:=q.lt
       omega
   have pinD:∀ {H':Hp} {s':Shared} {obj:Obj},s'.heap.get? D=some obj→H' D=none→(∀ v,obj.data ≠ .cell v)→∀ p ∈ [(D,obj)],s'.heap.get? p.1=some p.2∧H' p.1=none∧p.1 ≠ (cxC X ts M scope C fp s H).env.locals∧p.1 ∉ (cxC X ts M scope C fp s H).fs∧∀ v,p.2.data ≠ .cell v:=by
     intro H' s' obj e1 e2 e3 p hp
     have hp:p=(D,obj):=by simpa using hp
     subst hp
     refine⟨e1,e2,hDC,fun z=> ?_,e3⟩
     have z:D ∈ frs X.stack:=z
     rcases List.mem_cons.mp (I.stkSub D z)with e | e
     · have: @LT.lt Nat _ X.env.locals s.heap.objs.size:=I.lt
       have e: @Eq Nat D X.env.locals:=e
       omega
     · exact I.nofs (a:=D) (by omega) e
   have I1':=I1.pins_of (pinD hl1 hD1 fun v z=>by rw[hdD]at z;cases z)
   have fpk:∀ {H':Hp},(∀ b ∈ fp,H' b=none)→∀ b ∈ fp,qei (cxC X ts M scope C fp s H) [(D,oD)] H' b:=fun {H'} fr b hb=>by
     refine⟨fr b hb,fun z=> ?_,I1.ok.exfs b hb,.inl hb,fun x a h=> ?_,fun p hp=> ?_⟩
     · have: @LT.lt Nat _ b s.heap.objs.size:=fpo b hb
       have z: @Eq Nat b C:=z
       omega
     · rcases qam h with h | ⟨_,h⟩
       · have h1:=(hO.empty _ _ h).2
         have h2: @LT.lt Nat _ b s.heap.objs.size:=fpo b hb
         exact Nat.ne_of_gt (by omega)
       · exact(f0 b hb).2.2.2.2.1 x a (qel (c.has I.ok) h)
     · have hp:p=(D,oD):=by simpa [cxC]using hp
       subst hp
       rintro rfl
       exact nDfp hb
   rcases hturn with ⟨stop,fin⟩ | ⟨go,N,hN,step⟩
   · refine wpAny_mono (T.done (cxC X ts M scope C fp s H) rfl rfl rfl hc i _ s1 σ1 H1 (fun _ _=>False) I1' (fpk fr1) t1 stop) (fun r s2 ⟨hr,I2⟩=> ?_) fun _ _ z=>z
     subst hr
     have pD:=I2.pin (D,oD) (by simp)
     obtain ⟨m2,hn2,_⟩:=I2.loc
     refine hRR D C H1 s2 ys m2 (I.compedD f0 I2 (by omega) hD1 ⟨by omega,q8p hDs,its,rv1,qi8 dd1 hl1 pD.1⟩) hn2 ?_ (fun x a h=> ?_) ?_ ?_ (fun p hp=> ?_) hD1 fin
     · have: @LT.lt Nat _ X.env.locals s.heap.objs.size:=I.lt
       exact Nat.ne_of_gt (by omega)
     · obtain ⟨v,q⟩:=I.cell x a h
       have: @LT.lt Nat _ a s.heap.objs.size:=q.lt
       exact Nat.ne_of_lt (by omega)
     · have:=I.sz;omega
     · rw[qc (Ne.symm hDC)];exact I2.free
     · have: @LT.lt Nat _ p.1 s.heap.objs.size:=Heap.lt_size (I.pin p hp).1
       exact Nat.ne_of_lt (by omega)
   · refine wpAny_mono (T.item (cxC X ts M scope C fp s H) rfl rfl rfl hc i _ s1 σ1 H1 (fun _ _=>False) I1' (fpk fr1) t1 go) (fun r s2 ⟨u,hr,h2⟩=> ?_) fun _ _ z=>z
     subst hr
     refine wpAny_mono h2 (fun _ s3 ⟨x,H3,I3,r3,y3,t3,fr3⟩=> ?_) fun _ _ z=>z
     have I3':Inv (cxC X ts M scope C fp s H) _ (List.replicate ts.length none++σ) H3 s3:=(I3.pinned (fpk fr3) (T.obj _ _ t3)).weak (by
         have:=I3.len
         have e:σ1.length=(ts++M).length:=I3.len
         rw[List.length_append,List.length_replicate,I.len,e,List.length_append,c.len]) (fun j v e=>by
         have hj:ts.length≤j:=by
           rcases Nat.lt_or_ge j ts.length with z | z
           · rw[List.getElem?_append_left (by simpa using z),List.getElem?_replicate]at e
             split at e <;> cases e
           · exact z
         rw[List.getElem?_append_right (by simpa using hj)]at e
         rw[← d1,List.getElem?_drop]at e
         simp only [List.length_replicate]at e
         rwa [show ts.length+(j - ts.length)=j by omega]at e)
     refine wpAny_mono (hg C fp s H _ s3 _ H3 x u _ I3' r3 (step x H3 y3)) (fun _ s4 ⟨σ4,H4,I4,d4,q4⟩=> ?_) fun _ _ z=>z
     refine wpAny_mono (hf C fp s H _ s4 σ4 H4 _ I4 q4) (fun ok s5 ⟨H5,I5,q5⟩=> ?_) fun _ _ z=>z
     have keepT:∀ {σ7:St} {H7:Hp} {s7:Shared},Inv (cxC X ts M scope C fp s H) ([(D,oD)]++qej fp s3.heap) σ7 H7 s7→tn (i+1) s7.heap∧(∀ b ∈ fp,H7 b=none):=fun {σ7 H7 s7} I7 =>
       ⟨T.keep _ _ _ t3 fun b hb o e=>(I7.pin (b,o) (List.mem_append_right _ (List.mem_append_right _ (qat hb e)))).1,fun b hb=>by
         obtain ⟨o,e,_⟩:=T.obj _ _ t3 b hb
         exact(I7.pin (b,o) (List.mem_append_right _ (List.mem_append_right _ (qat hb e)))).2.1⟩
     cases ok with
     | false =>
       rw[if_neg Bool.false_ne_true]at q5 ⊢
       obtain ⟨m',hm,w'⟩:=hN _ _ q5
       have pD:=I5.pin (D,oD) (by simp)
       exact⟨m',hm,i+1,σ4,H5,ys,its,I5.pins_of (fun p hp=>by simp at hp),d4,(keepT I5).1,(keepT I5).2,pD.2.1,qi8 dd1 hl1 pD.1,rv1,w'⟩
     | true =>
       rw[if_pos rfl]at q5 ⊢
       refine wpAny_mono (hk C fp s H _ s5 σ4 H5 _ I5 q5) (fun v s6 ⟨y,H6,I6,r6,q6⟩=> ?_) fun _ _ z=>z
       refine wpAny_mono (he C fp s H _ s6 σ4 H6 _ I6 q6) (fun v2 s7 ⟨y2,H7,I7,r7,kk,ek,q7⟩=> ?_) fun _ _ z=>z
       subst ek
       obtain ⟨m',hm,w'⟩:=hN _ _ q7
       have pD:=I7.pin (D,oD) (by simp)
       have hlen:=rv1.length
       refine wpAny_dictSet_pairs (hsz:=by omega) (qo0 r6) (qi8 dd1 hl1 pD.1) fun h' dd' sb=> ?_
       have up:∀ b o,b ≠ D→s7.heap.get? b=some o→h'.get? b=some o:=fun b o hb e=>(sb.2 b hb).trans e
       have I8:Inv (cxC X ts M scope C fp s H) [] σ4 H7 { s7 with heap:=h',toks:=s7.toks+1 } :=
         (I7.pins_of (pins':=[]) (fun p hp=>by simp at hp)).turned up pD.2.1 hDC (.inr (by show s.heap.objs.size≤D;omega)) (fun x a h=>neC x a h) (fun p hp=>by simp [cxC]at hp)
       refine⟨m',hm,i+1,σ4,H7,putK ys kk y2,_,I8,d4,?_,(keepT I7).2,pD.2.1,dd',rv1.put kk r7,w'⟩
       exact T.keep _ _ _ (keepT I7).1 fun b hb o e=>up b o (fun z=>nDfp (z ▸ hb)) e
 exact codeAny_compStart_dict loop (T.self _ 0 _ _ _ (T.keep _ _ _ t0 fun b _ o e=>old b o e) loop)
theorem qabr {tg iter kx vx:Expr} {ifs:List Expr} {pos:Pos} {wi:TI} {g:TG} {tt:TT} {tk tv:TE} (c:qax X ts M scope) (hc:X.calm=true) (hi:PI X tg iter wi) (hg:∀ C fp s₀ H₀,PG (cxC X ts M scope C fp s₀ H₀) tg g) (hf:∀ C fp s₀ H₀,PF (cxC X ts M scope C fp s₀ H₀) ifs tt)
   (hk:∀ C fp s₀ H₀,PE (cxC X ts M scope C fp s₀ H₀) kx tk) (he:∀ C fp s₀ H₀,PE (cxC X ts M scope C fp s₀ H₀) vx tv) (hs:∀ x,foldedSetIterable iter X.env x=pure x:=by intro _;rfl):PE X (.DictComp kx vx [⟨tg,iter,ifs,0⟩] scope pos) (tDC ts.length wi g tt tk tv):=by
 intro pins s σ H Q I h
 rw[arm_eval_DictComp]
 refine wpAny_comprehension_free (use:=none) rfl hs (qlm (c.has I.ok)) c.kind c.loc (thn (hi pins s σ H _ I h) fun v s1 h1=>thn h1 fun itv s2 h2=> ?_)
 obtain ⟨it,fp,tn,J,H2,rfl,I2,T,t0,f0,hw⟩:=h2
 refine qsv (RR:=fun acc C=>compPost (model X.prog X.w) X.A X.xe none (EP X pins σ Q) acc C) c hc hg hf hk he I2 T t0 f0 hw ?_
 intro D C H' s' ys m I' hn n1 n2 n3 n4 n5 hD fin
 exact⟨m,hn,fun h' hs'=>⟨.ref D,_,I'.turned (t':=s'.toks) (fun b o hb e=>(hs'.2 b hb).trans e) n4 n1 (.inr n3) n2 n5,rfl,fin D hD⟩⟩
theorem q0g {i:Nat} {x:Str} {tg iter kx vx:Expr} {ifs:List Expr} {pos pos' spos:Pos} {wi:TI} {g:TG} {tt:TT} {tk tv:TE} (hN:X.N.Nodup) (hix:X.N[i]? =some x) (hx:Loc X.env.scope x) (c:qax X ts M scope) (hc:X.calm=true) (hi:PI X tg iter wi) (hg:∀ C fp s₀ H₀,PG (cxC X ts M scope C fp s₀ H₀) tg g) (hf:∀ C fp s₀ H₀,PF (cxC X ts M scope C fp s₀ H₀) ifs tt)
   (hk:∀ C fp s₀ H₀,PE (cxC X ts M scope C fp s₀ H₀) kx tk) (he:∀ C fp s₀ H₀,PE (cxC X ts M scope C fp s₀ H₀) vx tv) (hs:∀ x,foldedSetIterable iter X.env x=pure x:=by intro _;rfl) (hsw:swapsWith (.DictComp kx vx [⟨tg,iter,ifs,0⟩] scope pos) (some (.Name x pos')) spos.line X.env=pure true:=by rfl)
   (hfn:X.fn x=true∨X.env.scope.names.lookup x=some .local:=by first | exact .inl rfl | exact .inr rfl | assumption) :
   PS X (.Assign [.Name x pos'] (.DictComp kx vx [⟨tg,iter,ifs,0⟩] scope pos) spos) (q2i (tDC ts.length wi g tt tk tv) (qv0 i)):=by
 intro pins s σ H Dn I h
 rw[exec_Assign_Name_used _ _ _ _ hsw]
 refine wpAny_bind (wpAny_standAt (wpAny_bind ?_))
 show wpAny _ X.A (do let _ ← comprehension (.DictComp kx vx [⟨tg,iter,ifs,0⟩] scope pos) scope X.env _ newDict false (eval iter X.env) (some (assign (.Name x pos') X.env))) _ _ s
 refine wpAny_bind (wpAny_mono (wpAny_comprehension_free (use:=some (assign (.Name x pos') X.env)) (Q:=fun _ s'=>SP X pins Dn .next s') rfl hs (qlm (c.has I.ok)) c.kind c.loc
   (thn (hi pins s σ H _ I h) fun v s1 h1=>thn h1 fun itv s2 h2=> ?_)) (fun _ s' hq=>wpAny_pure (wpAny_pure hq)) fun _ _ e=>e)
 obtain ⟨it,fp,tn,J,H2,rfl,I2,T,t0,f0,hw⟩:=h2
 refine qsv (RR:=fun acc C=>compPost (model X.prog X.w) X.A X.xe (some (assign (.Name x pos') X.env)) (fun _ s'=>SP X pins Dn .next s') acc C) c hc hg hf hk he I2 T t0 f0 hw ?_
 intro D C H' s' ys m I' hn n1 n2 n3 n4 n5 hD fin
 show wpAny _ X.A (assign (.Name x pos') X.env (.ref D)) _ _ _
 refine wpAny_assign_Name (qir I' hN hix hx (v:=.ref D) rfl (fun s'' I'' hsb=> ?_) hfn)
 obtain ⟨a,hsb,ha⟩:=hsb
 have hCa:C ≠ a:=by
   rcases ha with rfl | ha
   · exact n1
   · exact(n2 x a ha).symm
 refine⟨m,hn.sameBut hsb hCa,fun h' hs'=>⟨_,_,I''.turned (t':=s''.toks) (fun b o hb e=>(hs'.2 b hb).trans e) n4 n1 (.inr n3) n2 n5,fin D hD⟩⟩
end
section
variable {X:Cx}
theorem qwr:∀ {xs:List V} {us:List Value},xs.length=us.length→(∀ (i:Nat) x u,xs[i]? =some x→us[i]? =some u→RelV x u)→Vals xs us
 | [],[],_,_=>.nil
 | [],_::_,h,_=>by simp at h
 | _::_,[],h,_=>by simp at h
 | x::xs,u::us,h,k=>.cons (k 0 x u rfl rfl) (qwr (by simpa using h) fun i y w e f=>k (i+1) y w (by simpa using e) (by simpa using f))
theorem qpg {P:Program} {w:World} {kvs:List (Key × V)} {vs:List (Key × Value)} {acc:List Value} (rel:KV kvs vs) (hl:acc.length=vs.length) (hv:∀ (j:Nat) v,acc[j]? =some v→∃ k x,vs[j]? =some (k,x)∧(qm P w).is k v=true):Vals (kvs.map fun kv=>kV kv.1) acc:=by
 refine qwr (by rw[List.length_map,rel.length,hl]) fun i x u e1 e2=> ?_
 obtain ⟨k,y,e3,hk⟩:=hv i u e2
 rw[List.getElem?_map]at e1
 cases e4:kvs[i]? with
 | none=>rw[e4]at e1;cases e1
 | some p =>
   obtain ⟨k',v'⟩:=p
   rw[e4]at e1
   obtain ⟨u',e5,_⟩:=rel.get e4
   rw[e3]at e5;cases e5
   have:kV k=x:=by simpa using e1
   rw[← this]
   exact qwq hk
theorem qu9 (hc:X.calm=true):qal X (.type "list") (fun xs H Q=>∃ a kvs,xs=[.ref a]∧Rd H a (.dK kvs)∧∀ l,H l=none→Q (.ref l) (upd H l (.lst (kvs.map fun kv=>kV kv.1)))):=by
 intro pins s σ H xs us Q I r h
 obtain ⟨a,kvs,rfl,hd,q⟩:=h
 obtain ⟨u,rfl,ru⟩:=vals1 r
 cases ru
 obtain ⟨z,hs,vs,rel,dd⟩:=qhl I.hok hd
 obtain ⟨ep,da⟩:=dd.dictAt
 refine PySem.W.kdl_call (PySem.W.kdl_dict (knd:=qm X.prog X.w) (kvs:=vs) (ep:=ep) hs) (I.ok.hd hc) da (by rw[← rel.length];exact z) fun h' tk acc c kp e it=> ?_
 have hv:Vals (kvs.map fun kv=>kV kv.1) acc.toList:=qpg (P:=X.prog) (w:=X.w) rel (by rw[Array.length_toList];exact it.1) fun j v e=>it.2 j v (by rw[← Array.getElem?_toList];exact e)
 exact⟨.ref s.heap.objs.size,_,I.laid (o:=.lst (kvs.map fun kv=>kV kv.1)) (t':=tk) kp (Nat.le_refl _) ⟨by rw[List.length_map];exact z,acc.toList,c,hv,by simpa using e⟩,rfl,q _ (I.hok.fresh (Nat.le_refl _))⟩
theorem qlc:∀ {ns:List Int} {its:List Value},Vals (ns.map V.int) its→IntsAre its ns
 | [],_,.nil=>.nil
 | n::ns,_,.cons r t=>by
   obtain ⟨k,rfl⟩:=r
   exact .cons n k (qlc t)
theorem qql:∀ {ns:List Int} {its:List Value},IntsAre its ns→Vals (ns.map V.int) its
 | _,_,.nil=>.nil
 | _,_,.cons n k t=>.cons ⟨k,rfl⟩ (qql t)
theorem qqm:qal X (.builtin "sorted") (fun xs H Q=>∃ a,∃ ns:List Int,xs=[.ref a]∧SqL X.K H a (ns.map V.int)∧ns.length < 64∧∀ (l:Addr) (ns':List Int),H l=none→ns'.Perm ns→ns'.Pairwise (·≤·)→Q (.ref l) (upd H l (.lst (ns'.map V.int)))):=by
 intro pins s σ H xs us Q I r h
 obtain ⟨a,ns,rfl,hl,h64,q⟩:=h
 obtain ⟨u,rfl,ru⟩:=vals1 r
 cases ru
 obtain ⟨its,rv,pl,_⟩:=I.list hl
 have hlen:=rv.length
 rw[List.length_map]at hlen
 refine sorted_ints pl.isList (qlc rv) (by omega) fun out ns' a1 a2 a3=> ?_
 obtain ⟨e,he⟩:=sortedAll_at s.heap its out
 refine⟨.ref (s.heap.objs.size+1),_,I.laid (o:=.lst (ns'.map V.int)) (t':=s.toks) (fun _ _=>sortedAll_old) (Nat.le_succ _) ⟨?_,out.toList,e,qql a1,by simpa [seqObj]using he⟩,rfl,q _ ns' (I.hok.fresh (Nat.le_succ _)) a2 a3⟩
 rw[List.length_map,a2.length_eq]
 exact Nat.le_of_lt (qbv (by omega))
theorem qqn (hc:X.calm=true):qal X (.builtin "sorted") (fun xs H Q=>∃ a kvs,∃ ns:List Int,xs=[.ref a]∧Rd H a (.dK kvs)∧kvs.map (fun kv=>kV kv.1)=ns.map V.int∧ns.length < 64∧∀ (l:Addr) (ns':List Int),H l=none→ns'.Perm ns→ns'.Pairwise (·≤·)→Q (.ref l) (upd H l (.lst (ns'.map V.int)))):=by
 intro pins s σ H xs us Q I r h
 obtain ⟨a,kvs,ns,rfl,hd,hk,h64,q⟩:=h
 obtain ⟨u,rfl,ru⟩:=vals1 r
 cases ru
 obtain ⟨z,hs,vs,rel,dd⟩:=qhl I.hok hd
 obtain ⟨ep,da⟩:=dd.dictAt
 have hnl:ns.length=kvs.length:=by have:=congrArg List.length hk;simpa using this.symm
 refine Calls.call_function_entry kind_sorted plain_sorted entry_sorted (args_sorted1 _) ?_
 unfold Builtin.«sorted»
 refine wpAny_bind (m:=checkCount "sorted" 1 1 _) (wpAny_pure ?_)
 refine wpAny_bind (PySem.W.kdu_collect (A:=X.A.in1) (PySem.W.kdl_dict (knd:=qm X.prog X.w) (kvs:=vs) (ep:=ep) hs) (I.ok.hd hc) da (by rw[← rel.length];exact z) fun h' tk acc kp it=> ?_)
 have hv:Vals (kvs.map fun kv=>kV kv.1) acc.toList:=qpg (P:=X.prog) (w:=X.w) rel (by rw[Array.length_toList];exact it.1) fun j v e=>it.2 j v (by rw[← Array.getElem?_toList];exact e)
 rw[hk]at hv
 have hal:acc.toList.length=ns.length:=by rw[← hv.length,List.length_map]
 have hal2:acc.size=ns.length:=by rw[← Array.length_toList];exact hal
 refine wpAny_bind (wpAny_newList ?_ (by rw[hal];exact Nat.le_of_lt (qbv (by omega))))
 have hoL:(h'.push (seqObj "list" acc.toList.toArray 0)).get? h'.objs.size=some (seqObj "list" acc.toList.toArray 0):=Heap.get?_push_size _ rfl
 refine wpAny_bind (wpAny_holding (wpAny_call_entry slot_list_sort ⟨_,hoL,rfl⟩ entry_list_sort (list_sort_tree hoL (qlc hv) (by omega) fun out ns' a1 a2 a3=>⟨_,rfl,?_⟩) (args_list_sort _)))
 refine wpAny_pure ⟨_,rfl,?_⟩
 obtain ⟨e,he⟩:=sortedHeap_at (out:=out) hoL
 have I':Inv X pins σ H { s with heap:=h',toks:=tk }:=I.kept (t':=tk) kp
 have old:∀ b o,h'.get? b=some o→(sortedHeap (h'.push (seqObj "list" acc.toList.toArray 0)) h'.objs.size acc.toList out).get? b=some o:=fun b o e=>by
   have hlt:b < h'.objs.size:=Heap.lt_size e
   rw[sortedHeap_old (Nat.ne_of_lt hlt) (by rw[size_push'];exact Nat.lt_succ_of_lt hlt)]
   exact Heap.get?_push_of_some _ e
 refine⟨.ref h'.objs.size,_,I'.laid (o:=.lst (ns'.map V.int)) old (Nat.le_refl _) ⟨?_,out.toList,e,qql a1,by simpa [seqObj]using he⟩,rfl,q _ ns' (I'.hok.fresh (Nat.le_refl _)) a2 a3⟩
 rw[List.length_map,a2.length_eq]
 exact Nat.le_of_lt (qbv (by omega))
end
end L2
namespace T3
open PySem PySem.Spec PyProof.Rows L2
noncomputable def qhs:Key→D
 | .inl i=>.int i
 | .inr x=>.str x
theorem qsw {w:Wd} {H:Hp}:∀ k:Key,Rep w H (qhs k) (kV k)
 | .inl _=>rfl
 | .inr _=>rfl
theorem qi9 {w:Wd} {H:Hp} {vs:List V}:∀ {ks:List Key},qb w H (ks.map qhs) (ks.map kV)
 | []=>rfl
 | k::ks=>⟨kV k,_,rfl,qsw k,qi9 (vs:=vs)⟩
theorem qmb:∀ {ks:List Key} {vs:List V},ks.length=vs.length→(ks.zip vs).map (fun kv=>kV kv.1)=ks.map kV
 | [],[],_=>rfl
 | [],_::_,h=>by simp at h
 | _::_,[],h=>by simp at h
 | k::ks,v::vs,h=>by rw[List.zip_cons_cons,List.map_cons,List.map_cons,qmb (by simpa using h)]
section
variable {X:Cx} {E E2:XW} {a b c e tg it kx vx:Expr} {f g fk fv:Env→M D} {pos:Pos} {fi:MI} {ifs:List Expr} {cond:Env→M Bool} {T:List Nat} {hd:D→Env→M Env} {ts Mk:List Str} {scope:Scope} {new:Bool}
noncomputable def qem (d:D):M (List D × Src):=match d with
 | .dct ks _=>M.pure (ks.map qhs,[])
 | _=>M.fail
theorem q8q (he:PE X it (tD E f)):PI X tg it (tI E fun Γ=>M.bind (f Γ) qem):=by
 refine PI.mono (q3s he) fun σ H R ⟨w,Γ,S,rel,hold,q⟩=> ?_
 refine qd (k:=fun d _=>qem d) rel hold q fun d v S1 w1 H1 l1 rel1 h1 rv q1=> ?_
 unfold qem at q1
 split at q1
 case h_2=>exact False.elim q1
 case h_1 ks xs =>
   obtain ⟨p,vs,rfl,z,hr,hl,rr⟩:=rv
   refine⟨p,_,rfl,hr,fun o H2 e2 e4 e3=> ?_⟩
   have fz:∀ b,Fz (H1 b) (H2 b):=fun b=>by
     by_cases hb:b=p
     · subst hb
       rcases e4 with e4 | e4
       · exact .inl e4
       · exact .inr ⟨o,_,e4,e2⟩
     · exact .inl (e3 b hb)
   have le:Le w1 H1 w1 H2:=⟨List.prefix_refl _,fun _ z=>z,fun b _=>fz b⟩
   have ho:qe w1 H2 S1:=by
     refine⟨fun b zb=>(fz b).ne (h1.zin b zb),h1.len,h1.nd,fun b m=>(fz b).ne (h1.rin b m),fun l b c e q=> ?_⟩
     by_cases hb:b=p
     · subst hb
       have:=h1.cell l b c e q
       cases c with
       | gone=>trivial
       | lst xs=>exact absurd z this.1
       | dct ks xs=>exact absurd z this.1
       | obj C fs xs=>exact absurd z this.1
     · exact(h1.cell l b c e q).mono le (e3 b hb) id
   have hk:ks.length=vs.length:=hl.trans rr.length
   have lz:(ks.zip vs).length=(ks.map qhs).length:=by simp [hk]
   refine q1 _ _ le ho _ ⟨fun w' H' S' i l hh hs hi=> ?_,fun w' H' S' l hh hs=> ?_,fun w' H' S' i x H'' l hh hs hi y=> ?_⟩
   · refine⟨?_,by rw[lz];exact hi⟩
     rcases l.h p z with e | ⟨_,_,e,_⟩
     · rw[e];exact e2
     · rw[e2]at e;cases e
   · refine⟨?_,by rw[lz];exact Nat.le_refl _⟩
     rcases l.h p z with e | ⟨_,_,e,_⟩
     · rw[e];exact e2
     · rw[e2]at e;cases e
   · obtain ⟨rfl,k,v,e,rfl⟩:=y
     refine⟨w',qhs k,?_,Le.refl _ _,hh,qsw k⟩
     have:ks[i]? =some k:=by
       rw[List.getElem?_zip_eq_some]at e
       exact e.1
     rw[List.getElem?_map,this];rfl
noncomputable def qfl (new:Bool):List D→M D
 | [d]=>fun S=>match look d S with
   | .dct ks _=>alloc new (.lst (ks.map qhs)) S
   | _=>M.fail S
 | _=>M.fail
theorem q0h (hc:X.calm=true):qdh X (.type "list") (qfl new):=by
 refine⟨_,qu9 hc,fun E w H S ds vs Q h rv q=> ?_⟩
 unfold qfl at q
 split at q
 case h_2=>exact False.elim q
 case h_1 d =>
   obtain ⟨v,rfl,r⟩:=rv.one_
   cases e1:look d S <;> rw[e1]at q <;> first | exact False.elim q | skip
   case dct ks xs =>
     obtain ⟨p,vs,rfl,hp,hl,hvs⟩:=qdf h r e1
     refine⟨p,_,rfl,hp,fun l hl'=> ?_⟩
     rw[qmb (hl.trans hvs.length)]
     exact qay h (qi9 (vs:=vs)) q hl'
noncomputable def insI (x:Int):List Int→List Int
 | []=>[x]
 | y::ys=>if x≤y then x::y::ys else y::insI x ys
noncomputable def sortI:List Int→List Int
 | []=>[]
 | x::xs=>insI x (sortI xs)
theorem insI_perm (x:Int):∀ ys,(insI x ys).Perm (x::ys)
 | []=>.refl _
 | y::ys=>by
   rw[insI]
   by_cases h:x≤y
   · rw[if_pos h]
   · rw[if_neg h];exact((insI_perm x ys).cons y).trans (.swap _ _ _)
theorem sortI_perm:∀ xs,(sortI xs).Perm xs
 | []=>.refl _
 | x::xs=>(insI_perm x _).trans ((sortI_perm xs).cons x)
theorem qkn (x:Int):∀ {ys:List Int},ys.Pairwise (·≤·)→(insI x ys).Pairwise (·≤·)
 | [],_=>by simp [insI]
 | y ::ys,h=>by
   rw[List.pairwise_cons]at h
   rw[insI]
   by_cases hx:x≤y
   · rw[if_pos hx,List.pairwise_cons,List.pairwise_cons]
     exact⟨fun z hz=>by rcases List.mem_cons.mp hz with rfl | hz;exact hx;exact Int.le_trans hx (h.1 z hz),h⟩
   · rw[if_neg hx,List.pairwise_cons]
     refine⟨fun z hz=> ?_,qkn x h.2⟩
     rcases List.mem_cons.mp ((insI_perm x ys).mem_iff.mp hz)with rfl | hz
     · omega
     · exact h.1 z hz
theorem qht:∀ xs,(sortI xs).Pairwise (·≤·)
 | []=>.nil
 | x::xs=>qkn x (qht xs)
theorem qko:∀ {xs ys:List Int},xs.Perm ys→xs.Pairwise (·≤·)→ys.Pairwise (·≤·)→xs=ys
 | [],ys,p,_,_=>(List.Perm.nil_eq p)
 | x::xs,[],p,_,_=>by simpa using p.length_eq
 | x ::xs,y::ys,p,h1,h2=>by
   rw[List.pairwise_cons]at h1 h2
   have e:x=y:=by
     have a:x ∈ y::ys:=p.mem_iff.mp (by simp)
     have b:y ∈ x::xs:=p.mem_iff.mpr (by simp)
     rcases List.mem_cons.mp a with e | a
     · exact e
     · rcases List.mem_cons.mp b with e | b
       · exact e.symm
       · have:=h1.1 y b;have:=h2.1 x a;omega
   subst e
   rw[qko ((List.perm_cons x).mp p) h1.2 h2.2]
theorem qph {xs ys:List Int} (p:xs.Perm ys) (h:xs.Pairwise (·≤·)):xs=sortI ys:=qko (p.trans (sortI_perm ys).symm) h (qht ys)
noncomputable def qf3 (new:Bool):List D→M D
 | [d]=>fun S=>match look d S with
   | .lst xs=>match intsOf xs with
     | some ns=>if decide (ns.length < 64)then alloc new (.lst ((sortI ns).map D.int)) S else .no
     | none=>.no
   | .dct ks _=>match intsOf (ks.map qhs)with
     | some ns=>if decide (ns.length < 64)then alloc new (.lst ((sortI ns).map D.int)) S else .no
     | none=>.no
   | _=>.no
 | _=>M.fail
theorem ints_rep {w:Wd} {H:Hp}:∀ ns:List Int,qb w H (ns.map D.int) (ns.map V.int)
 | []=>rfl
 | n::ns=>⟨_,_,rfl,rfl,ints_rep ns⟩
theorem q0i {F:Value} {r r':List V→Hp→VK→Prop} (h:qal X F r) (h':qal X F r'):qal X F (fun xs H Q=>r xs H Q∨r' xs H Q):=fun pins s σ H xs us Q I rv q=>q.elim (h pins s σ H xs us Q I rv) (h' pins s σ H xs us Q I rv)
theorem qyg (hc:X.calm=true):qdh X (.builtin "sorted") (qf3 new):=by
 refine⟨_,q0i qqm (qqn hc),fun E w H S ds vs Q h rv q=> ?_⟩
 unfold qf3 at q
 split at q
 case h_2=>exact False.elim q
 case h_1 d =>
   obtain ⟨v,rfl,r⟩:=rv.one_
   cases e1:look d S <;> rw[e1]at q <;> first | exact False.elim q | skip
   case lst xs =>
     dsimp only at q
     cases e2:intsOf xs with
     | none=>rw[e2]at q;exact False.elim q
     | some ns =>
       rw[e2]at q
       dsimp only at q
       obtain ⟨p,us,rfl,hp,hvs⟩:=qj h r e1
       split at q
       case isFalse=>exact False.elim q
       case isTrue h64 =>
         refine .inl ⟨p,ns,rfl,SqL.of (by rw[hp,qbr e2 hvs]),of_decide_eq_true h64,fun l ns' hl p1 p2=> ?_⟩
         rw[qph p1 p2]
         exact qay h (ints_rep _) q hl
   case dct ks xs =>
     dsimp only at q
     cases e2:intsOf (ks.map qhs)with
     | none=>rw[e2]at q;exact False.elim q
     | some ns =>
       rw[e2]at q
       dsimp only at q
       obtain ⟨p,us,rfl,hp,hl,hvs⟩:=qdf h r e1
       split at q
       case isFalse=>exact False.elim q
       case isTrue h64 =>
         refine .inr ⟨p,_,ns,rfl,hp,?_,of_decide_eq_true h64,fun l ns' hl p1 p2=> ?_⟩
         · rw[qmb (hl.trans hvs.length)]
           exact qbr (w:=w) (H:=H) e2 (qi9 (vs:=us))
         · rw[qph p1 p2]
           exact qay h (ints_rep _) q hl
noncomputable def dcA (src:Src) (n:Nat) (hd:D→Env→M Env) (cond:Env→M Bool) (fk fv:Env→M D) (Γ:Env):List Key→List D→List D→M (List Key × List D)
 | ks,xs,[]=>M.bind (guard src) fun _=>M.pure (ks,xs)
 | ks,xs,d::ds=>M.bind (guard src) fun _=>M.bind (hd d (List.replicate n none++Γ)) fun Γ1=>M.bind (cond Γ1) fun b =>
   if b=true then M.bind (fk Γ1) fun k=>M.bind (fv Γ1) fun y=>match keyOf k with
     | some j=>dcA src n hd cond fk fv Γ (qbl ks j) (qaz ks xs j y) ds
     | none=>M.fail
   else dcA src n hd cond fk fv Γ ks xs ds
noncomputable def dcD (new:Bool) (n:Nat) (fi:MI) (hd:D→Env→M Env) (cond:Env→M Bool) (fk fv:Env→M D) (Γ:Env):M D :=
 M.bind (fi Γ) fun r=>if decide (r.1.length < sizeLine)then M.bind (noErr (dcA r.2 n hd cond fk fv Γ [] [] r.1)) fun p=>alloc new (.dct p.1 p.2)else M.fail
theorem qyh {ks:List Key} {k:Key}:(qbl ks k).length≤ks.length+1:=by
 unfold qbl
 split
 · omega
 · simp
theorem q3t {α:Type} {ks:List Key} {xs:List α} {k:Key} {y:α} (h:ks.length=xs.length):(qbl ks k).length=(qaz ks xs k y).length:=by
 unfold qbl qaz
 cases qe6 ks k with
 | true=>rw[if_pos rfl,if_pos rfl,qi4 k y h]
 | false=>rw[if_neg Bool.false_ne_true,if_neg Bool.false_ne_true];simp [h]
theorem qabs {w:Wd} {H:Hp} {σ:St} {Γ:Env} {S:Sto} {src:Src} {items:List D} {J:It} {P:List Key × List D→Sto→Wd→Hp→Prop} {n:Nat} (hT:∀ i ∈ T,i < n) (hk:qaj hd) (rel:Rel w H σ Γ) (hold:qe w H S) (wk:Walks J w H src items) (hz:items.length < sizeLine)
   (q:Wp E2 w H (dcA src n hd cond fk fv Γ [] [] items S) P) {Fin:List (Key × V)→Hp→Prop} (hf:∀ ks ds vs S' w' H',Le w H w' H'→qe w' H' S'→ks.length=ds.length→qb w' H' ds vs→P (ks,ds) S' w' H'→Fin (ks.zip vs) H'):DcW J n (tG E2 T hd) (tB E2 cond) (tD E2 fk) (tD E2 fv) σ H Fin:=by
 refine⟨fun i m ys H'=>m=items.length - i∧i≤items.length∧∃ w' S' ks ds vs,Le w H w' H'∧qe w' H' S'∧ks.length=ds.length∧qb w' H' ds vs∧ys=ks.zip vs∧ks.length≤i∧Wp E2 w' H' (dcA src n hd cond fk fv Γ ks ds (items.drop i) S') P,
   ⟨_,rfl,Nat.zero_le _,w,S,[],[],[],Le.refl _ _,hold,rfl,rfl,rfl,Nat.le_refl _,q⟩,?_⟩
 rintro i m ys H' ⟨rfl,hi,w2,S2,ks,ds,vs,l2,h2,hl2,r2,rfl,hlen,q2⟩
 refine⟨by rw[List.length_zip];have:=Nat.min_le_left ks.length vs.length;omega,?_⟩
 by_cases hlt:i < items.length
 · rw [List.drop_eq_getElem_cons hlt,dcA]at q2
   obtain ⟨so,q2⟩:=qa5 q2
   refine .inr ⟨wk.go w2 H' S2 i l2 h2 so hlt,fun ys H'=>∃ w' S' ks ds vs,Le w H w' H'∧qe w' H' S'∧ks.length=ds.length∧qb w' H' ds vs∧ys=ks.zip vs∧ks.length≤i+1∧Wp E2 w' H' (dcA src n hd cond fk fv Γ ks ds (items.drop (i+1)) S') P,fun ys' H' z=>⟨_,by omega,rfl,hlt,z⟩,fun x H'' y=> ?_⟩
   obtain ⟨w3,d,e3,l3,h3,r3⟩:=wk.yld w2 H' S2 i x H'' l2 h2 so hlt y
   have:d=items[i]:=by rw[List.getElem?_eq_getElem hlt]at e3;exact(Option.some.inj e3).symm
   subst this
   have q3:=Wp.bind (q2.later l3)
   refine⟨w3,items[i],_,S2,(rel.mono (l2.trans l3)).cons n,h3,r3,?_⟩
   cases e4:hd items[i] (List.replicate n none++Γ) S2 with
   | no=>rw[e4]at q3;exact q3
   | err x S4=>rw[e4]at q3;exact q3
   | ok Γ4 S4 =>
     rw[e4]at q3
     have hlen4:Γ4.length=n+Γ.length:=by rw[hk _ _ _ _ _ e4];simp
     intro w4 H4 l4 h4 σ4 rel4 b4
     have q4:=q3 w4 H4 l4 h4
     refine⟨rel4.undrop hT b4 (by rw[← rel4.len,hlen4,rel.len]),?_⟩
     refine qc3 (k:=fun b Γ1=>if b=true then M.bind (fk Γ1) fun k=>M.bind (fv Γ1) fun y=>match keyOf k with
       | some j=>dcA src n hd cond fk fv Γ (qbl ks j) (qaz ks ds j y) (items.drop (i+1))
       | none=>M.fail
       else dcA src n hd cond fk fv Γ ks ds (items.drop (i+1))) rel4 h4 q4 fun bb S5 w5 H5 l5 rel5 h5 q5=> ?_
     have ll:=(l2.trans l3).trans (l4.trans l5)
     have rr:=r2.mono (l3.trans (l4.trans l5))
     cases bb with
     | true =>
       rw[if_pos rfl]
       refine qd (k:=fun k Γ1=>M.bind (fv Γ1) fun y=>match keyOf k with
         | some j=>dcA src n hd cond fk fv Γ (qbl ks j) (qaz ks ds j y) (items.drop (i+1))
         | none=>M.fail) rel5 h5 q5 fun dk kv S6 w6 H6 l6 rel6 h6 rk q6=> ?_
       refine qd (k:=fun y _=>match keyOf dk with
         | some j=>dcA src n hd cond fk fv Γ (qbl ks j) (qaz ks ds j y) (items.drop (i+1))
         | none=>M.fail) rel6 h6 q6 fun dy yv S7 w7 H7 l7 rel7 h7 ry q7=> ?_
       cases e8:keyOf dk with
       | none=>rw[e8]at q7;exact False.elim q7
       | some j =>
         rw[e8]at q7
         have rr':=(rr.mono l6).mono l7
         refine⟨j,qi5 rk e8,w7,S7,_,_,qaz ks vs j yv,ll.trans (l6.trans l7),h7,q3t hl2,qo9 ry rr',qsn j yv (hl2.trans rr'.length),?_,q7⟩
         have:=qyh (ks:=ks) (k:=j)
         omega
     | false =>
       rw[if_neg Bool.false_ne_true]
       exact⟨w5,S5,ks,ds,vs,ll,h5,hl2,rr,rfl,by omega,q5⟩
 · have e:i=items.length:=by omega
   subst e
   rw[List.drop_length,dcA]at q2
   obtain ⟨so,q2⟩:=qa5 q2
   exact .inl ⟨wk.stop w2 H' S2 l2 h2 so,hf ks ds vs S2 w2 H' l2 h2 hl2 r2 (q2 _ _ (Le.refl _ _) h2)⟩
theorem q0j {σ:St} {H:Hp} {Q:VK} {n:Nat} (hT:∀ i ∈ T,i < n) (hk:qaj hd) (h:tD E (dcD new n fi hd cond fk fv) σ H Q):tDC n (tI E fi) (tG E2 T hd) (tB E2 cond) (tD E2 fk) (tD E2 fv) σ H Q:=by
 obtain ⟨w,Γ,S,rel,hold,q⟩:=h
 refine⟨w,Γ,S,rel,hold,(Wp.bind q).mono fun r S1 w1 H1 l1 h1 q1 J wk=> ?_⟩
 obtain ⟨hz,q1⟩:=Wp.iteF q1
 exact qabs hT hk (rel.mono l1) h1 wk (of_decide_eq_true hz) (Wp.noErr (Wp.bind q1)) fun ks ds vs S' w' H' l' h' hl rv q' D hD=>qo5 h' hl rv q' hD
theorem r_dc (cc:qax X ts Mk scope) (hc:X.calm=true) (hi:PI X tg it (tI E fi)) (hg:∀ C fp s₀ H₀,PG (cxC X ts Mk scope C fp s₀ H₀) tg (tG E2 T hd)) (hf:∀ C fp s₀ H₀,PF (cxC X ts Mk scope C fp s₀ H₀) ifs (tB E2 cond))
   (hk':∀ C fp s₀ H₀,PE (cxC X ts Mk scope C fp s₀ H₀) kx (tD E2 fk)) (he:∀ C fp s₀ H₀,PE (cxC X ts Mk scope C fp s₀ H₀) vx (tD E2 fv)) (hs:∀ x,foldedSetIterable it X.env x=pure x) (hT:∀ i ∈ T,i < ts.length) (hk:qaj hd):PE X (.DictComp kx vx [⟨tg,it,ifs,0⟩] scope pos) (tD E (dcD new ts.length fi hd cond fk fv)) :=
 PE.mono (qabr cc hc hi hg hf hk' he hs) fun σ H Q h=>q0j hT hk h
theorem q3u {i:Nat} {x:Str} {pos' spos:Pos} (hN:X.N.Nodup) (hix:X.N[i]? =some x) (hx:Loc X.env.scope x) (cc:qax X ts Mk scope) (hc:X.calm=true) (hi:PI X tg it (tI E fi)) (hg:∀ C fp s₀ H₀,PG (cxC X ts Mk scope C fp s₀ H₀) tg (tG E2 T hd)) (hf:∀ C fp s₀ H₀,PF (cxC X ts Mk scope C fp s₀ H₀) ifs (tB E2 cond))
   (hk':∀ C fp s₀ H₀,PE (cxC X ts Mk scope C fp s₀ H₀) kx (tD E2 fk)) (he:∀ C fp s₀ H₀,PE (cxC X ts Mk scope C fp s₀ H₀) vx (tD E2 fv)) (hs:∀ x,foldedSetIterable it X.env x=pure x) (hsw:swapsWith (.DictComp kx vx [⟨tg,it,ifs,0⟩] scope pos) (some (.Name x pos')) spos.line X.env=pure true) (hfn:X.fn x=true∨X.env.scope.names.lookup x=some .local) (hT:∀ i ∈ T,i < ts.length) (hk:qaj hd) :
   PS X (.Assign [.Name x pos'] (.DictComp kx vx [⟨tg,it,ifs,0⟩] scope pos) spos) (tS E fun Γ=>M.bind (dcD new ts.length fi hd cond fk fv Γ) fun d=>M.pure (.nx,Γ.set i (some d))):=by
 refine PS.mono (q0g hN hix hx cc hc hi hg hf hk' he hs hsw hfn) fun D σ H ⟨w,Γ,S,rel,hold,q⟩=> ?_
 refine q0j (new:=new) hT hk (qd (k:=fun d Γ=>M.pure (Fl.nx,Γ.set i (some d))) rel hold q fun dx x S1 w1 H1 l1 rel1 h1 rx q1=> ?_)
 exact(q1 _ _ (Le.refl _ _) h1:qcj D (.nx,_) S1 w1 H1) _ (rel1.set rx)
end
end T3
namespace L2
open PySem PySem.Spec PyProof.Rows
section
variable {X:Cx}
noncomputable def q3v (ns:List Int):Nat:=(firstMet (fun i=>ns.getD i 0) ns.length).length
noncomputable def q8r (ns:List Int) (k:Int):Bool:=(firstMet (fun i=>ns.getD i 0) ns.length).any (·==k)
theorem qyi (hc:X.calm=true):qal X (.type "set") (fun xs H Q=>∃ (a:Addr) (ns:List Int),xs=[.ref a]∧SqL X.K H a (ns.map V.int)∧ns.length+1 < scanBound∧∀ p,H p=none→Q (.ref p) (upd H p (.set (q8r ns) (q3v ns)))):=by
 intro pins s σ H xs us Q I r h
 obtain ⟨a,ns,rfl,hl,hb,q⟩:=h
 obtain ⟨u,rfl,ru⟩:=vals1 r
 cases ru
 obtain ⟨its,rv,pl,_⟩:=I.list hl
 have hlen:=rv.length
 rw[List.length_map]at hlen
 refine call_set_list (items:=its.toArray) (ns:=ns) (I.ok.hd hc) pl.isList (by simpa using qlc rv) (by simpa [← hlen]using hb) fun h' tk hS kp=> ?_
 have hS':h'.SetOf (intKind X.prog X.w) s.heap.objs.size (q8r ns) (q3v ns):=by
   have e:its.toArray.size=ns.length:=by simp [hlen]
   rw[e]at hS
   exact hS
 exact⟨.ref s.heap.objs.size,_,I.laid (o:=.set (q8r ns) (q3v ns)) (t':=tk) (fun b o e=>kp b o (Heap.lt_size e) e) (Nat.le_refl _) hS',rfl,q _ (I.hok.fresh (Nat.le_refl _))⟩
theorem qyj:qal X (.builtin "len") (fun xs H Q=>∃ (a:Addr) (m:Int→Bool) (n:Nat),xs=[.ref a]∧H a=some (.set m n)∧Q (.int n) H):=by
 intro pins s σ H xs us Q I r h
 obtain ⟨a,m,n,rfl,ha,q⟩:=h
 obtain ⟨u,rfl,ru⟩:=vals1 r
 cases ru
 obtain ⟨o,es,ep,t,h1,h2,h3,h4,h5,h6,h7,h8⟩:s.heap.SetOf (intKind X.prog X.w) a m n:=I.hok a _ ha
 refine call_len_set h1 h2 h3 h7 (by unfold scanBound at h6;omega) ?_
 rw[h8]
 exact⟨.int n,H,I.tok _,⟨_,rfl⟩,q⟩
end
end L2
namespace T3
open PySem PySem.Spec PyProof.Rows L2
noncomputable def qgp (d:D):M D:=fun S=>match look d S with
 | .lst xs=>match intsOf xs with
   | some ns=>(if decide (ns.length+1 < scanBound)then M.pure (.int (q3v ns))else M.fail) S
   | none=>.no
 | _=>.no
section
variable {X:Cx} {E:XW} {f:Env→M D} {e:Expr} {p1 p2 p3 p4:Pos}
theorem q0k (hc:X.calm=true) (hg1:Gl X "len") (hm1:X.mg "len"=none) (hg2:Gl X "set") (hm2:X.mg "set"=none) (he:PE X e (tD E f)) (hs:starEach [e] X.env=[(false,eval e X.env)]) :
   PE X (.Call (.Name "len" p1) [.Call (.Name "set" p2) [e] [] p3] [] p4) (tD E fun Γ=>M.bind (f Γ) qgp):=by
 refine PE.mono (qr4 qyj hg1 hm1 qzk (qcz (qit (qyi hc) hg2 hm2 q6u (qcz he qis hs) (by decide) (by decide) hs rfl) qis)) fun σ H Q ⟨w,Γ,S,rel,hold,q⟩=> ?_
 refine qd (k:=fun x _=>qgp x) rel hold q fun dx x S1 w1 H1 l1 rel1 h1 rx q1=> ?_
 unfold qgp at q1
 cases e1:look dx S1 <;> rw[e1]at q1 <;> first | exact False.elim q1 | skip
 rename_i xs
 dsimp only at q1
 cases e2:intsOf xs with
 | none=>rw[e2]at q1;exact False.elim q1
 | some ns =>
   rw[e2]at q1
   obtain ⟨hz,q1⟩:=Wp.iteF q1
   obtain ⟨p,us,rfl,hp,hus⟩:=qj h1 rx e1
   refine⟨p,ns,rfl,by rw[← qbr e2 hus];exact SqL.of hp,of_decide_eq_true hz,fun a ha=> ?_⟩
   refine⟨a,_,_,rfl,qi,?_⟩
   exact q1 _ _ (qdc h1 ha) (qfe h1 ha) _ rfl
end
set_option genSizeOf false
set_option genInjectivity false
inductive Bi where
 | len | sum | all | any | min | max | list (new:Bool) | tuple | int | str | isi | keys (new:Bool) | sorted (new:Bool)
inductive Mt where
 | append | insert | pop | clear | join | index
mutual
inductive CE where
 | var (i:Nat) | int (i:Int) | str (x:Str) | bl (b:Bool) | non | ty (n:String)
 | bin (new:Bool) (op:Operator) (a b:CE) | neg (a:CE) | cmp (op:CmpOp) (a b:CE) | chain (o p:CmpOp) (a b c:CE)
 | and (a b:CE) | or (a b:CE) | not (a:CE) | one (a:CE) | ife (c:CB) (a b:CE)
 | tup (as:CL) | lst (new:Bool) (as:CL) | dnil (new:Bool)
 | ix (a i:CE) | sl (new:Bool) (a:CE) (lo hi:CO)
 | call (j:Nat) (as:CL) | bi (b:Bi) (as:CL) | mt (m:Mt) (o:CE) (as:CL)
 | lc (new:Bool) (n:Nat) (t:CG) (i:CI) (c:CF) (e:CE) | dc (new:Bool) (n:Nat) (t:CG) (i:CI) (c:CF) (k e:CE)
 | frz (a:CE) | lset (a:CE) | lc2 (n n2:Nat) (t:CG) (i:CI) (t2:CG) (i2:CI) (c:CF) (e:CE)
inductive CB where
 | cmp (op:CmpOp) (a b:CE) | chain (o p:CmpOp) (a b c:CE) | and (a b:CB) | or (a b:CB) | not (a:CB) | one (a:CB) | tru (a:CE)
inductive CL where
 | nil | cons (a:CE) (r:CL)
inductive CO where
 | no | at_ (a:CE)
inductive CI where
 | seq (a:CE) | keys (a:CE) | rng1 (as:CL) | rng2 (as:CL) | enum (as:CL) | zip (as:CL)
inductive CG where
 | nm (i:Nat) | tg (ts:CT) | sub (o i:CE)
inductive CT where
 | nil | cons (a:CG) (r:CT)
inductive CF where
 | yes | if_ (b:CB)
end
mutual
inductive CS where
 | pass | ex (a:CE) | ret (a:CE) | retN | sif (c:CB) (a b:CSL) | asg (t:CG) (e:CE) | set (i:Nat) (e:CE) | par (i j:Nat) (as:CL)
 | aug (op:Operator) (i:Nat) (e:CE) | augIx (op:Operator) (o i e:CE) | sfor (t:CG) (i:CI) (b:CSL) | swhile (c:CB) (b:CSL) | brk | cont
inductive CSL where
 | nil | cons (a:CS) (r:CSL) | gh (i:Nat) (r:CSL)
end
noncomputable def isiB (t n:String):Bool:=t==n || (t=="bool" && n=="int")
noncomputable def tys:List String:=["NoneType","bool","int","str","list","tuple","dict"]
noncomputable def tyn:List String:=["bool","int","str","list","tuple","dict"]
theorem q3w (K:PySem.W.Frag):∀ t ∈ tys,∀ n ∈ tyn,PySem.W.kitOne K (.type t) (.type n)=some (isiB t n):=by
 intro t ht n hn
 simp only [tys,tyn,List.mem_cons,List.not_mem_nil,or_false]at ht hn
 rcases ht with rfl | rfl | rfl | rfl | rfl | rfl | rfl <;> rcases hn with rfl | rfl | rfl | rfl | rfl | rfl <;> rfl
noncomputable def qny:D→Option String
 | .non=>some "NoneType"
 | .bl _=>some "bool"
 | .int _=>some "int"
 | .str _=>some "str"
 | .lst _=>some "list"
 | .tup _=>some "tuple"
 | _=>none
theorem q3x {d:D} {t:String} (h:qny d=some t):t ∈ tys:=by
 cases d <;> simp only [qny]at h <;> first | (cases h;done) | (cases h;decide)
noncomputable def qsx (ds:List D):M D:=match ds with
 | [d,.ty n]=>fun S=>match qny (look d S)with
   | some t=>(if tyn.contains n then M.pure (.bl (isiB t n))else M.fail) S
   | none=>.no
 | _=>M.fail
theorem q3y {K:PySem.W.Frag} {w:Wd} {H:Hp} {S:Sto} {d:D} {v:V} {t:String} (h:qe w H S) (r:Rep w H d v) (e:qny (look d S)=some t):qhh K H v (.type t):=by
 cases e1:look d S <;> rw[e1]at e <;> simp only [qny]at e <;> first | (cases e;done) | skip
 case non=>cases e;rw[qhn r e1];exact .non
 case bl b=>cases e;rw[qwd r e1];exact .bl b
 case int b=>cases e;rw[qr r e1];exact .int b
 case str b=>cases e;rw[qb0 r e1];exact .str b
 case lst xs=>cases e;obtain ⟨p,vs,rfl,hp,_⟩:=qj h r e1;exact .lst hp
 case tup xs=>cases e;obtain ⟨p,vs,rfl,hp,_⟩:=qai h r e1;exact .tup hp
theorem q8s {X:Cx}:qdh X (.builtin "isinstance") qsx:=by
 refine⟨_,qzl,fun E w H S ds vs Q h rv q=> ?_⟩
 unfold qsx at q
 split at q
 case h_2=>exact False.elim q
 case h_1 d n =>
   obtain ⟨v,v',rfl,r,r'⟩:=rv.two_
   cases (show v'=.ty n from r')
   cases e:qny (look d S)with
   | none=>rw[e]at q;exact False.elim q
   | some t =>
     rw[e]at q
     obtain ⟨hn,q⟩:=Wp.iteF q
     exact⟨v,n,_,_,rfl,q3y h r e,q3w _ t (q3x e) n (by simpa using hn),now h (d:=.bl _) rfl q⟩
noncomputable def Bi.name:Bi→Str
 | .len=>"len" | .sum=>"sum" | .all=>"all" | .any=>"any" | .min=>"min" | .max=>"max" | .list _=>"list" | .tuple=>"tuple" | .int=>"int" | .str=>"str" | .isi=>"isinstance" | .keys _=>"list" | .sorted _=>"sorted"
noncomputable def biF:Bi→List D→M D
 | .len=>qsl | .sum=>qb2 qlz | .all=>qb2 qsm | .any=>qb2 qx4 | .min=>minD | .max=>maxD | .list new=>qhq new | .tuple=>qx5 | .int=>intD | .str=>qx6 | .isi=>qsx | .keys new=>qfl new | .sorted new=>qf3 new
noncomputable def Mt.name:Mt→Str
 | .append=>"append" | .insert=>"insert" | .pop=>"pop" | .clear=>"clear" | .join=>"join" | .index=>"index"
noncomputable def mtF:Mt→D→List D→M D
 | .append=>qqg | .insert=>qqh | .pop=>q8l | .clear=>qu7 | .join=>joinM | .index=>qqi
noncomputable def mtT:Mt→D→Bool
 | .join=>isS
 | _=>isL
noncomputable def qsy:CT→Nat
 | .cons _ r=>qsy r+1
 | .nil=>0
noncomputable def qg (Φ:List Fd) (fns:List (Str × Nat × Nat)) (j:Nat) (ds:List D):M D:=match Φ[j]?,fns[j]? with
 | some F,some (_,n,_)=>qp n F ds
 | _,_=>M.fail
mutual
noncomputable def evE (Φ:List Fd) (fns:List (Str × Nat × Nat)):CE→Env→M D
 | .var i=>qfg i
 | .int i=>fun _=>M.pure (.int i)
 | .str x=>fun _=>M.pure (.str x)
 | .bl b=>fun _=>M.pure (.bl b)
 | .non=>fun _=>M.pure .non
 | .ty n=>fun _=>M.pure (.ty n)
 | .bin new op a b=>fun Γ=>M.bind (evE Φ fns a Γ) fun x=>M.bind (evE Φ fns b Γ) fun y=>qgn new op x y
 | .neg a=>fun Γ=>M.bind (evE Φ fns a Γ) qu4
 | .cmp op a b=>fun Γ=>M.bind (evE Φ fns a Γ) fun x=>M.bind (evE Φ fns b Γ) fun y=>qa8 op x y
 | .chain o p a b c=>qi2 (qa8 o) (qa8 p) (evE Φ fns a) (evE Φ fns b) (evE Φ fns c)
 | .and a b=>q7n (evE Φ fns a) (evE Φ fns b)
 | .or a b=>orV (evE Φ fns a) (evE Φ fns b)
 | .one a=>evE Φ fns a
 | .not a=>q7o (evE Φ fns a)
 | .ife c a b=>ifE (evB Φ fns c) (evE Φ fns a) (evE Φ fns b)
 | .tup as=>fun Γ=>M.bind (evA Φ fns as Γ) mkT
 | .lst new as=>fun Γ=>M.bind (evA Φ fns as Γ) (mkL new)
 | .dnil new=>fun _=>alloc new (.dct [] [])
 | .ix a i=>fun Γ=>M.bind (evE Φ fns a Γ) fun x=>M.bind (evE Φ fns i Γ) fun y S=>ixM (look x S) y S
 | .sl new a lo hi=>slD new (evE Φ fns a) (evO Φ fns lo) (evO Φ fns hi)
 | .call j as=>fun Γ=>M.bind (evA Φ fns as Γ) (qg Φ fns j)
 | .bi b as=>fun Γ=>M.bind (evA Φ fns as Γ) (biF b)
 | .mt m o as=>mtD (mtT m) (evE Φ fns o) (evA Φ fns as) (mtF m)
 | .lc new n t i c e=>lcD new n (evI Φ fns i) (evG Φ fns t) (evF Φ fns c) (evE Φ fns e)
 | .dc new n t i c k e=>dcD new n (evI Φ fns i) (evG Φ fns t) (evF Φ fns c) (evE Φ fns k) (evE Φ fns e)
 | .frz a=>fun Γ=>M.bind (evE Φ fns a Γ) qd8
 | .lset a=>fun Γ=>M.bind (evE Φ fns a Γ) qgp
 | .lc2 n n2 t i t2 i2 c e=>q8g n n2 (evI Φ fns i) (evG Φ fns t) (evI Φ fns i2) (evG Φ fns t2) (evF Φ fns c) (evE Φ fns e)
noncomputable def evB (Φ:List Fd) (fns:List (Str × Nat × Nat)):CB→Env→M Bool
 | .cmp op a b=>fun Γ=>M.bind (M.bind (evE Φ fns a Γ) fun x=>M.bind (evE Φ fns b Γ) fun y=>qa8 op x y) asB
 | .chain o p a b c=>fun Γ=>M.bind (qi2 (qa8 o) (qa8 p) (evE Φ fns a) (evE Φ fns b) (evE Φ fns c) Γ) asB
 | .and a b=>q7k (evB Φ fns a) (evB Φ fns b)
 | .or a b=>orB (evB Φ fns a) (evB Φ fns b)
 | .one a=>evB Φ fns a
 | .not a=>q7l (evB Φ fns a)
 | .tru a=>fun Γ=>M.bind (evE Φ fns a Γ) qi1
noncomputable def evF (Φ:List Fd) (fns:List (Str × Nat × Nat)):CF→Env→M Bool
 | .yes=>fun _=>M.pure true
 | .if_ a=>evB Φ fns a
noncomputable def evA (Φ:List Fd) (fns:List (Str × Nat × Nat)):CL→Env→M (List D)
 | .nil=>fun _=>M.pure []
 | .cons a r=>qz7 (evE Φ fns a) (evA Φ fns r)
noncomputable def evO (Φ:List Fd) (fns:List (Str × Nat × Nat)):CO→Env→M (Option Int)
 | .no=>fun _=>M.pure none
 | .at_ a=>fun Γ=>M.bind (evE Φ fns a Γ) asI
noncomputable def evI (Φ:List Fd) (fns:List (Str × Nat × Nat)):CI→MI
 | .seq a=>fun Γ=>M.bind (evE Φ fns a Γ) qo
 | .keys a=>fun Γ=>M.bind (evE Φ fns a Γ) qem
 | .rng1 as=>fun Γ=>M.bind (evA Φ fns as Γ) qd3
 | .rng2 as=>fun Γ=>M.bind (evA Φ fns as Γ) qgo
 | .enum as=>fun Γ=>M.bind (evA Φ fns as Γ) qcl
 | .zip as=>fun Γ=>M.bind (evA Φ fns as Γ) qd7
noncomputable def evG (Φ:List Fd) (fns:List (Str × Nat × Nat)):CG→D→Env→M Env
 | .nm i=>q76 i
 | .tg ts=>qu5 (qsy ts) (evT Φ fns ts)
 | .sub o i=>q79 (evE Φ fns o) (evE Φ fns i)
noncomputable def evT (Φ:List Fd) (fns:List (Str × Nat × Nat)):CT→List D→Env→M Env
 | .nil=>qz8
 | .cons a r=>qqd (evG Φ fns a) (evT Φ fns r)
end
mutual
noncomputable def evS (Φ:List Fd) (fns:List (Str × Nat × Nat)):CS→MS
 | .pass=>qwi
 | .ex a=>fun Γ=>M.bind (evE Φ fns a Γ) fun _=>M.pure (.nx,Γ)
 | .ret a=>fun Γ=>M.bind (evE Φ fns a Γ) fun d=>M.pure (.rt d,Γ)
 | .retN=>fun Γ=>M.pure (.rt .non,Γ)
 | .sif c a b=>ifS (evB Φ fns c) (qt Φ fns a) (qt Φ fns b)
 | .asg t e=>fun Γ=>M.bind (evE Φ fns e Γ) fun d=>M.bind (evG Φ fns t d Γ) fun Γ'=>M.pure (.nx,Γ')
 | .set i e=>fun Γ=>M.bind (evE Φ fns e Γ) fun d=>M.pure (.nx,Γ.set i (some d))
 | .par i j as=>parS i j (evA Φ fns as)
 | .aug op i e=>q8a op i (evE Φ fns e)
 | .augIx op o i e=>augIx op (evE Φ fns o) (evE Φ fns i) (evE Φ fns e)
 | .sfor t i b=>q3k (evI Φ fns i) (evG Φ fns t) (qt Φ fns b)
 | .swhile c b=>qdi (evB Φ fns c) (qt Φ fns b)
 | .brk=>fun Γ=>M.pure (.bk,Γ)
 | .cont=>fun Γ=>M.pure (.ct,Γ)
noncomputable def qt (Φ:List Fd) (fns:List (Str × Nat × Nat)):CSL→MS
 | .nil=>qwi
 | .cons a r=>seqS (evS Φ fns a) (qt Φ fns r)
 | .gh i r=>ghS i (qt Φ fns r)
end
set_option genInjectivity false in
structure Sx where
 N:List Str
 sc:Scope
 fnb:Str→Bool
 fns:List (Str × Nat × Nat)
 L:Nat
 bs:List Str
noncomputable def Sx.inner (s:Sx) (ts Mk:List Str) (scope:Scope):Sx:={ s with N:=ts++Mk,sc:=qoz scope s.sc,fnb:=fun x=>scope.names.lookup x==some .cell }
noncomputable def q8t (sc:Scope) (x:Str):Bool:=match sc.names.lookup x with
 | some .local=>true
 | some .cell=>true
 | some .free=>true
 | _=>false
noncomputable def q8u (sc:Scope) (x:Str):Bool:=match sc.names.lookup x with
 | some .local=>true
 | some .cell=>true
 | _=>false
noncomputable def lcl (sc:Scope) (x:Str):Bool:=sc.names.lookup x==some .local
noncomputable def qmc (s:Sx) (i:Nat) (x:Str):Bool:=decide (s.N[i]? =some x) && q8t s.sc x && !(x==("__debug__":Str)) && !(x==("__classdict__":Str))
noncomputable def qmd (s:Sx) (i:Nat) (x:Str):Bool:=decide (s.N[i]? =some x) && q8u s.sc x && (s.fnb x || lcl s.sc x)
noncomputable def q0l (s:Sx) (x:Str):Bool:=s.sc.names.lookup x==some .globalImplicit && !(x==("__debug__":Str)) && decide (x ≠ "__name__")
noncomputable def okB (s:Sx) (x:Str):Bool:=q0l s x && s.bs.any (fun y=>decide (y=x))
mutual
noncomputable def tgs:CG→List Nat
 | .nm i=>[i]
 | .tg ts=>q0m ts
 | .sub _ _=>[]
noncomputable def q0m:CT→List Nat
 | .cons a r=>tgs a++q0m r
 | .nil=>[]
end
mutual
noncomputable def nms:CG→Bool
 | .nm _=>true
 | .tg ts=>q3z ts
 | .sub _ _=>false
noncomputable def q3z:CT→Bool
 | .cons a r=>nms a && q3z r
 | .nil=>true
end
noncomputable def isTup:Expr→Bool
 | .Tuple _ _ _=>true
 | _=>false
noncomputable def tsN:Expr→List Str
 | .Name x _=>[x]
 | _=>[]
noncomputable def qak:Expr→List Str
 | .Name x _=>[x]
 | .Tuple es _ _=>es.flatMap fun e=>match e with
   | .Tuple es' _ _=>es'.flatMap tsN
   | e=>tsN e
 | _=>[]
noncomputable def qja (N:List Str) (t:Expr):List Str:=N.map fun x=>if (qak t).any (fun y=>decide (y=x))then (".":Str)++x else x
noncomputable def mkN (N ts:List Str):List Str:=N.map fun x=>if ts.any (fun y=>decide (y=x))then (".":Str)++x else x
mutual
noncomputable def qah (s:Sx):CE→Expr→Bool
 | .var i,e=>match e with
   | .Name x _=>qmc s i x
   | _=>false
 | .int i,e=>match e with
   | .Constant (.int j) _ _=>decide (i=j)
   | _=>false
 | .str i,e=>match e with
   | .Constant (.str j) _ _=>decide (i=j)
   | _=>false
 | .bl i,e=>match e with
   | .Constant (.bool j) _ _=>decide (i=j)
   | _=>false
 | .non,e=>match e with
   | .Constant .none _ _=>true
   | _=>false
 | .ty n,e=>match e with
   | .Name x _=>decide (x=(n:Str)) && okB s x && tyn.contains n
   | _=>false
 | .bin _ op a b,e=>match e with
   | .BinOp x o y _=>decide (op=o) && qah s a x && qah s b y
   | _=>false
 | .neg a,e=>match e with
   | .UnaryOp .USub x _=>qah s a x
   | _=>false
 | .cmp op a b,e=>match e with
   | .Compare x [o] [y] _=>decide (op=o) && qcw y && qah s a x && qah s b y
   | _=>false
 | .chain o p a b c,e=>match e with
   | .Compare x [o',p'] [y,z] _=>decide (o=o') && decide (p=p') && qcw z && qah s a x && qah s b y && qah s c z
   | _=>false
 | .and a b,e=>match e with
   | .BoolOp .And (x::y::r) p=>qah s a x && qah s b (.BoolOp .And (y::r) p)
   | _=>false
 | .or a b,e=>match e with
   | .BoolOp .Or (x::y::r) p=>qah s a x && qah s b (.BoolOp .Or (y::r) p)
   | _=>false
 | .one a,e=>match e with
   | .BoolOp _ [x] _=>qah s a x
   | _=>false
 | .not a,e=>match e with
   | .UnaryOp .Not x _=>qah s a x
   | _=>false
 | .ife c a b,e=>match e with
   | .IfExp z x y _=>qkz s c z && qah s a x && qah s b y
   | _=>false
 | .tup as,e=>match e with
   | .Tuple es _ _=>qjb s as es
   | _=>false
 | .lst _ as,e=>match e with
   | .List es _=>qjb s as es
   | _=>false
 | .dnil _,e=>match e with
   | .Dict [] [] _=>true
   | _=>false
 | .ix a i,e=>match e with
   | .Subscript x y _=>qd9 y && qah s a x && qah s i y
   | _=>false
 | .sl _ a lo hi,e=>match e with
   | .Subscript x (.Slice l h none _) _=>qah s a x && q8v s lo l && q8v s hi h
   | _=>false
 | .call j as,e=>match e with
   | .Call (.Name x _) es [] _=>q0l s x && (match s.fns[j]? with | some (y,n,k)=>decide (x=y) && decide (n=es.length) && decide (k≤s.L) | none=>false) && es.all notStar && qjb s as es
   | _=>false
 | .bi b as,e=>match e with
   | .Call (.Name x _) es [] _=>okB s x && decide (x=b.name) && !es.isEmpty && es.all notStar && qjb s as es
   | _=>false
 | .mt m o as,e=>match e with
   | .Call (.Attribute x n p) es [] q=>decide (n=m.name) && ql6 x && (p.endLine==q.line) && es.all notStar && decide (es.length < 30) && qah s o x && qjb s as es
   | _=>false
 | .lc _ n t i c el,e=>match e with
   | .ListComp x [g] scope _=>decide (g.is_async=0) && qiv s.N s.sc (qak g.target) (qja s.N g.target) scope && qcw g.iter && qyk s i g.target g.iter && qsz (s.inner (qak g.target) (qja s.N g.target) scope) t g.target && (tgs t).all (fun k=>decide (k < n)) && nms t && q30 (s.inner (qak g.target) (qja s.N g.target) scope) c g.ifs && qah (s.inner (qak g.target) (qja s.N g.target) scope) el x && decide ((qak g.target).length=n)
   | _=>false
 | .dc _ n t i c k el,e=>match e with
   | .DictComp y x [g] scope _=>decide (g.is_async=0) && qiv s.N s.sc (qak g.target) (qja s.N g.target) scope && qcw g.iter && qyk s i g.target g.iter && qsz (s.inner (qak g.target) (qja s.N g.target) scope) t g.target && (tgs t).all (fun k=>decide (k < n)) && nms t && q30 (s.inner (qak g.target) (qja s.N g.target) scope) c g.ifs && qah (s.inner (qak g.target) (qja s.N g.target) scope) k y && qah (s.inner (qak g.target) (qja s.N g.target) scope) el x && decide ((qak g.target).length=n)
   | _=>false
 | .frz a,e=>qah s a e
 | .lset a,e=>match e with
   | .Call (.Name x _) [w] [] _=>match w with
     | .Call (.Name y _) [z] [] _=>decide (x="len") && decide (y="set") && okB s x && okB s y && notStar z && qah s a z
     | _=>false
   | _=>false
 | .lc2 n n2 t i t2 i2 c el,e=>match e with
   | .ListComp x [g,g2] scope _=>decide (g.is_async=0) && decide (g2.is_async=0) && g.ifs.isEmpty && qiv s.N s.sc (qak g2.target++qak g.target) (mkN s.N (qak g2.target++qak g.target)) scope && qcw g.iter && qcw g2.iter && qyk s i g.target g.iter && qsz (s.inner (qak g2.target++qak g.target) (mkN s.N (qak g2.target++qak g.target)) scope) t g.target && (tgs t).all (fun k=>decide (k < n)) && nms t && qyk (s.inner (qak g2.target++qak g.target) (mkN s.N (qak g2.target++qak g.target)) scope) i2 g2.target g2.iter && qsz (s.inner (qak g2.target++qak g.target) (mkN s.N (qak g2.target++qak g.target)) scope) t2 g2.target && (tgs t2).all (fun k=>decide (k < n2)) && nms t2 && q30 (s.inner (qak g2.target++qak g.target) (mkN s.N (qak g2.target++qak g.target)) scope) c g2.ifs && qah (s.inner (qak g2.target++qak g.target) (mkN s.N (qak g2.target++qak g.target)) scope) el x && decide (n=(qak g2.target++qak g.target).length) && decide (n2≤n)
   | _=>false
noncomputable def qkz (s:Sx):CB→Expr→Bool
 | .cmp op a b,e=>match e with
   | .Compare x [o] [y] _=>decide (op=o) && qcw y && qah s a x && qah s b y
   | _=>false
 | .chain o p a b c,e=>match e with
   | .Compare x [o',p'] [y,z] _=>decide (o=o') && decide (p=p') && qcw z && qah s a x && qah s b y && qah s c z
   | _=>false
 | .and a b,e=>match e with
   | .BoolOp .And (x::y::r) p=>qkz s a x && qkz s b (.BoolOp .And (y::r) p)
   | _=>false
 | .or a b,e=>match e with
   | .BoolOp .Or (x::y::r) p=>qkz s a x && qkz s b (.BoolOp .Or (y::r) p)
   | _=>false
 | .one a,e=>match e with
   | .BoolOp _ [x] _=>qkz s a x
   | _=>false
 | .not a,e=>match e with
   | .UnaryOp .Not x _=>qkz s a x
   | _=>false
 | .tru a,e=>plainT e && qah s a e
noncomputable def q30 (s:Sx):CF→List Expr→Bool
 | .yes,es=>es.isEmpty
 | .if_ a,es=>match es with
   | [x]=>qkz s a x
   | _=>false
noncomputable def qjb (s:Sx):CL→List Expr→Bool
 | .nil,es=>es.isEmpty
 | .cons a r,es=>match es with
   | x::xs=>notStar x && qah s a x && qjb s r xs
   | []=>false
noncomputable def q8v (s:Sx):CO→Option Expr→Bool
 | .no,o=>o.isNone
 | .at_ a,o=>match o with
   | some x=>qah s a x
   | none=>false
noncomputable def qyk (s:Sx):CI→Expr→Expr→Bool
 | .seq a,_,e=>qah s a e
 | .keys a,_,e=>qah s a e
 | .rng1 as,_,e=>match e with
   | .Call (.Name x _) [y] [] _=>decide (x="range") && okB s x && notStar y && qjb s as [y]
   | _=>false
 | .rng2 as,_,e=>match e with
   | .Call (.Name x _) [y,z] [] _=>decide (x="range") && okB s x && notStar y && notStar z && qjb s as [y,z]
   | _=>false
 | .enum as,t,e=>match e with
   | .Call (.Name x _) [y] [] _=>isTup t && decide (x="enumerate") && okB s x && notStar y && qjb s as [y]
   | _=>false
 | .zip as,t,e=>match e with
   | .Call (.Name x _) [y,z] [] _=>isTup t && decide (x="zip") && okB s x && notStar y && notStar z && qjb s as [y,z]
   | _=>false
noncomputable def qsz (s:Sx):CG→Expr→Bool
 | .nm i,e=>match e with
   | .Name x _=>qmd s i x
   | _=>false
 | .tg ts,e=>match e with
   | .Tuple es _ _=>es.all notStar && decide (es.length=qsy ts) && q8w s ts es
   | _=>false
 | .sub o i,e=>match e with
   | .Subscript x y _=>qd9 y && qah s o x && qah s i y
   | _=>false
noncomputable def q8w (s:Sx):CT→List Expr→Bool
 | .nil,es=>es.isEmpty
 | .cons a r,es=>match es with
   | x::xs=>notStar x && qsz s a x && q8w s r xs
   | []=>false
end
structure Gd (CX:CXT) (Φ:List Fd) (s:Sx) (X:Cx) (E':XK):Prop where
 hN:X.N=s.N
 hsc:X.env.scope=s.sc
 hfn:X.fn=s.fnb
 calm:X.calm=true
 room:qcy s.L X.A
 own:PassesOwn (model X.prog X.w) X.A X.env X.xe
 pass:Passes CX X E'
 nd:s.N.Nodup
 blt:∀ b ∈ s.bs,X.mg b=none
 fns:∀ (j:Nat) (x:Str) (n k:Nat),s.fns[j]? =some (x,n,k)→∃ F,Φ[j]? =some F∧FnT CX X.prog X.w X.K X.mg X.base x n k F
section
variable {CX:CXT} {Φ:List Fd} {s:Sx} {X:Cx} {E':XK}
theorem q0n {sc:Scope} {x:Str} (h:q8t sc x=true):Vis sc x:=by
 unfold q8t at h
 unfold Vis
 cases e:sc.names.lookup x with
 | none=>rw[e]at h;cases h
 | some k=>rw[e]at h;cases k <;> first | (cases h;done) | simp
theorem q8x {sc:Scope} {x:Str} (h:q8u sc x=true):L2.Loc sc x:=by
 unfold q8u at h
 unfold L2.Loc
 cases e:sc.names.lookup x with
 | none=>rw[e]at h;cases h
 | some k=>rw[e]at h;cases k <;> first | (cases h;done) | simp
theorem Gd.var (G:Gd CX Φ s X E') {i:Nat} {x:Str} {pos:Pos} (h:qmc s i x=true) {E:XW}:PE X (.Name x pos) (tD E (qfg i)):=by
 unfold qmc at h
 simp only [Bool.and_eq_true,Bool.not_eq_true',decide_eq_true_eq]at h
 exact qaax (by rw[G.hN];exact h.1.1.1) (by rw[G.hsc];exact q0n h.1.1.2) h.1.2 h.2
theorem Gd.gl (G:Gd CX Φ s X E') {x:Str} (h:q0l s x=true):Gl X x∧(x==("__debug__":Str))=false∧x ≠ "__name__":=by
 unfold q0l at h
 simp only [Bool.and_eq_true,Bool.not_eq_true',decide_eq_true_eq,beq_iff_eq]at h
 exact⟨by unfold Gl Env.kindOf;rw[G.hsc];exact h.1.1,h.1.2,h.2⟩
theorem Gd.bl (G:Gd CX Φ s X E') {x:Str} (h:okB s x=true):Gl X x∧(x==("__debug__":Str))=false∧x ≠ "__name__"∧X.mg x=none:=by
 unfold okB at h
 rw[Bool.and_eq_true,List.any_eq_true]at h
 obtain ⟨h1,y,hy,e⟩:=h
 obtain ⟨a,b,c⟩:=G.gl h1
 have:y=x:=of_decide_eq_true e
 exact⟨a,b,c,this ▸ G.blt y hy⟩
theorem Gd.lc (G:Gd CX Φ s X E') {i:Nat} {x:Str} (h:qmd s i x=true):X.N[i]? =some x∧Loc X.env.scope x∧(X.fn x=true∨X.env.scope.names.lookup x=some .local):=by
 unfold qmd at h
 simp only [Bool.and_eq_true,decide_eq_true_eq,Bool.or_eq_true]at h
 refine⟨by rw[G.hN];exact h.1.1,by rw[G.hsc];exact q8x h.1.2,?_⟩
 rcases h.2 with z | z
 · exact .inl (by rw[G.hfn];exact z)
 · unfold lcl at z
   exact .inr (by rw[G.hsc];simpa using z)
noncomputable def qqo (CX:CXT):Prop:=∀ outer H s e s',¬ CX outer H s E0 e s'
theorem Gd.inner (hc:qqo CX) (G:Gd CX Φ s X E') {ts Mk:List Str} {scope:Scope} (ok:qiv s.N s.sc ts Mk scope=true) (C:Addr) (fp:List Addr) (s₀:Shared) (H₀:Hp):Gd CX Φ (s.inner ts Mk scope) (cxC X ts Mk scope C fp s₀ H₀) E0 where
 hN:=rfl
 hsc:=by
   show (relabel scope X.env)=qoz scope s.sc
   rw[← G.hsc]
   rfl
 hfn:=rfl
 calm:=G.calm
 room:=G.room
 own:=PassesOwn.never
 pass:=fun pins σ H s e s' _ h=>hc _ _ _ _ _ h
 nd:=(qfz (X:=X) G.hN G.hsc ok).nd
 blt:=G.blt
 fns:=G.fns
end
end T3
set_option maxHeartbeats 1000000
namespace T3
open PySem PySem.Spec PyProof.Rows L2
section
variable {Φ:List Fd} {fns:List (Str × Nat × Nat)}
mutual
theorem qgq:∀ (t:CG),nms t=true→qaj (evG Φ fns t)
 | .nm i,_=>by rw[evG];exact qyb i
 | .tg ts,h=>by
   rw[evG]
   rw[nms]at h
   intro d Γ S Γ' S' e
   unfold qu5 at e
   cases e1:look d S <;> rw[e1]at e <;> first | (cases e;done) | skip
   · dsimp only at e
     split at e
     · exact qva ts h _ _ _ _ _ e
     · cases e
   · dsimp only at e
     split at e
     · exact qva ts h _ _ _ _ _ e
     · cases e
 | .sub _ _,h=>by simp [nms]at h
theorem qva:∀ (t:CT),q3z t=true→∀ ds Γ S Γ' S',evT Φ fns t ds Γ S=.ok Γ' S'→Γ'.length=Γ.length
 | .nil,_,ds,Γ,S,Γ',S',e=>by
   rw[evT]at e
   unfold qz8 at e
   split at e
   · cases e;rfl
   · cases e
 | .cons a r,h,ds,Γ,S,Γ',S',e=>by
   rw[evT]at e
   rw[q3z,Bool.and_eq_true]at h
   unfold qqd at e
   split at e
   · rename_i d ds
     unfold M.bind at e
     cases e1:evG Φ fns a d Γ S with
     | no=>rw[e1]at e;cases e
     | err x S1=>rw[e1]at e;cases e
     | ok Γ1 S1 =>
       rw[e1]at e
       rw[qva r h.2 _ _ _ _ _ e,qgq a h.1 _ _ _ _ _ e1]
   · cases e
end
end
section
variable {CX:CXT} {Φ:List Fd} (hcx:qqo CX)
theorem dec {p:Prop} [Decidable p] (h:decide p=true):p:=of_decide_eq_true h
theorem Gd.units {s:Sx} {X:Cx} {E':XK} (G:Gd CX Φ s X E'):X.A.units+64 < cLine:=G.room.units
theorem Gd.units1 {s:Sx} {X:Cx} {E':XK} (G:Gd CX Φ s X E'):X.A.units+1 < cLine:=Nat.lt_of_le_of_lt (by omega) G.room.units
theorem qabu {s:Sx} {X:Cx} {E':XK} (G:Gd CX Φ s X E') {E:XW} {e:Expr} {es:List Expr} {fs:Env→M (List D)} {p pos:Pos} {x:Str} (b:Bi) (hb:okB s x=true) (hx:x=b.name) (hst:(e::es).all notStar=true) (ha:PA X (e::es) (tL E fs)) :
   PE X (.Call (.Name x p) (e::es) [] pos) (tD E fun Γ=>M.bind (fs Γ) (biF b)):=by
 obtain ⟨g1,g2,g3,g4⟩:=G.bl hb
 rw[List.all_cons,Bool.and_eq_true]at hst
 have h1:=qao (es:=es) (env:=X.env) hst.1
 have h2:=ql8 (pos:=pos) (env:=X.env) hst.2
 subst hx
 cases b with
 | len=>exact qdv q7s g1 g4 qzk ha g3 g2 h1 h2
 | sum=>exact qdv (q7t G.calm) g1 g4 q6y ha g3 g2 h1 h2
 | all=>exact qdv (q7u G.calm) g1 g4 q6z ha g3 g2 h1 h2
 | any=>exact qdv (q7v G.calm) g1 g4 q60 ha g3 g2 h1 h2
 | min=>exact qdv (q7w G.calm) g1 g4 q6w ha g3 g2 h1 h2
 | max=>exact qdv (q7x G.calm) g1 g4 q6x ha g3 g2 h1 h2
 | list new=>exact qfi q3e g1 g4 qk6 ha g3 g2 h1 h2
 | keys new=>exact qfi (q0h G.calm) g1 g4 qk6 ha g3 g2 h1 h2
 | sorted new=>exact qdv (qyg G.calm) g1 g4 qxs ha g3 g2 h1 h2
 | tuple=>exact qfi q7y g1 g4 qr6 ha g3 g2 h1 h2
 | int=>exact qfi q7z g1 g4 qzi ha g3 g2 h1 h2
 | str=>exact qfi q70 g1 g4 qzj ha g3 g2 h1 h2
 | isi=>exact qdv q8s g1 g4 qnr ha g3 g2 h1 h2
theorem qabv {s:Sx} {X:Cx} {E':XK} (G:Gd CX Φ s X E') {E:XW} {o:Expr} {es:List Expr} {f:Env→M D} {fs:Env→M (List D)} {p q:Pos} {n:Str} (m:Mt) (hn:n=m.name) (hc:ql6 o=true) (hl:(p.endLine==q.line)=true) (hst:es.all notStar=true) (hln:es.length < 30)
   (ho:PE X o (tD E f)) (ha:PA X es (tL E fs)) (h0:es=[]→fs=fun _=>M.pure []):PE X (.Call (.Attribute o n p) es [] q) (tD E (mtD (mtT m) f fs (mtF m))):=by
 subst hn
 cases es with
 | nil =>
   rw[h0 rfl]
   cases m with
   | append=>exact qpb PySem.F.plainAttrs_list PySem.F.slot_list_append PySem.F.type_list_append ql4 qnx ho (qbo hc) hl
   | insert=>exact qpb PySem.F.plainAttrs_list PySem.F.slot_list_insert PySem.F.type_list_insert ql5 qnx ho (qbo hc) hl
   | pop=>exact qpb PySem.F.plainAttrs_list PySem.F.slot_list_pop PySem.F.type_list_pop qwm qnx ho (qbo hc) hl
   | clear=>exact qpb PySem.F.plainAttrs_list PySem.F.slot_list_clear PySem.F.type_list_clear qpc qnx ho (qbo hc) hl
   | join=>exact qpb PySem.F.plainAttrs_str PySem.F.slot_str_join PySem.F.type_str_join qsr ty_S ho (qbo hc) hl
   | index=>exact qpb PySem.F.plainAttrs_list PySem.F.slot_list_index PySem.F.type_list_index qpd qnx ho (qbo hc) hl
 | cons e es =>
   have hst':=hst
   rw[List.all_cons,Bool.and_eq_true]at hst'
   have h1:=qao (es:=es) (env:=X.env) hst'.1
   have h2:=ql8 (pos:=q) (env:=X.env) hst'.2
   have h3:=q8n (cpos:=q) (env:=X.env) hst hln
   cases m with
   | append=>exact qyd PySem.F.plainAttrs_list PySem.F.slot_list_append PySem.F.type_list_append ql4 qnx ho ha (qbo hc) h3 hl h1 h2
   | insert=>exact qyd PySem.F.plainAttrs_list PySem.F.slot_list_insert PySem.F.type_list_insert ql5 qnx ho ha (qbo hc) h3 hl h1 h2
   | pop=>exact qyd PySem.F.plainAttrs_list PySem.F.slot_list_pop PySem.F.type_list_pop qwm qnx ho ha (qbo hc) h3 hl h1 h2
   | clear=>exact qyd PySem.F.plainAttrs_list PySem.F.slot_list_clear PySem.F.type_list_clear qpc qnx ho ha (qbo hc) h3 hl h1 h2
   | join=>exact qyd PySem.F.plainAttrs_str PySem.F.slot_str_join PySem.F.type_str_join qsr ty_S ho ha (qbo hc) h3 hl h1 h2
   | index=>exact qyd PySem.F.plainAttrs_list PySem.F.slot_list_index PySem.F.type_list_index qpd qnx ho ha (qbo hc) h3 hl h1 h2
theorem q31 {n:String} (h:tyn.contains n=true):bootBuiltins (n:Str)=some (.type n):=by
 have:n ∈ tyn:=by simpa using h
 simp only [tyn,List.mem_cons,List.not_mem_nil,or_false]at this
 rcases this with rfl | rfl | rfl | rfl | rfl | rfl
 · exact q2v
 · exact qzi
 · exact qzj
 · exact qk6
 · exact qr6
 · exact q2w
omit hcx in
theorem nb {p:Prop} (h:false=true):p:=nomatch h
omit hcx in
theorem an1 {a b:Bool} (h:(a && b)=true):a=true∧b=true:=Bool.and_eq_true_iff.mp h
omit hcx in
theorem an2 {a0 a1 a2:Bool} (h:(a0 && a1 && a2)=true):(a0=true∧a1=true)∧a2=true:=⟨an1 (an1 h).1,(an1 h).2⟩
omit hcx in
theorem an3 {a0 a1 a2 a3:Bool} (h:(a0 && a1 && a2 && a3)=true):((a0=true∧a1=true)∧a2=true)∧a3=true:=⟨an2 (an1 h).1,(an1 h).2⟩
omit hcx in
theorem an4 {a0 a1 a2 a3 a4:Bool} (h:(a0 && a1 && a2 && a3 && a4)=true):(((a0=true∧a1=true)∧a2=true)∧a3=true)∧a4=true:=⟨an3 (an1 h).1,(an1 h).2⟩
omit hcx in
theorem an5 {a0 a1 a2 a3 a4 a5:Bool} (h:(a0 && a1 && a2 && a3 && a4 && a5)=true):((((a0=true∧a1=true)∧a2=true)∧a3=true)∧a4=true)∧a5=true:=⟨an4 (an1 h).1,(an1 h).2⟩
omit hcx in
theorem an6 {a0 a1 a2 a3 a4 a5 a6:Bool} (h:(a0 && a1 && a2 && a3 && a4 && a5 && a6)=true):(((((a0=true∧a1=true)∧a2=true)∧a3=true)∧a4=true)∧a5=true)∧a6=true:=⟨an5 (an1 h).1,(an1 h).2⟩
omit hcx in
theorem an7 {a0 a1 a2 a3 a4 a5 a6 a7:Bool} (h:(a0 && a1 && a2 && a3 && a4 && a5 && a6 && a7)=true):((((((a0=true∧a1=true)∧a2=true)∧a3=true)∧a4=true)∧a5=true)∧a6=true)∧a7=true:=⟨an6 (an1 h).1,(an1 h).2⟩
omit hcx in
theorem an8 {a0 a1 a2 a3 a4 a5 a6 a7 a8:Bool} (h:(a0 && a1 && a2 && a3 && a4 && a5 && a6 && a7 && a8)=true):(((((((a0=true∧a1=true)∧a2=true)∧a3=true)∧a4=true)∧a5=true)∧a6=true)∧a7=true)∧a8=true:=⟨an7 (an1 h).1,(an1 h).2⟩
omit hcx in
theorem an9 {a0 a1 a2 a3 a4 a5 a6 a7 a8 a9:Bool} (h:(a0 && a1 && a2 && a3 && a4 && a5 && a6 && a7 && a8 && a9)=true):((((((((a0=true∧a1=true)∧a2=true)∧a3=true)∧a4=true)∧a5=true)∧a6=true)∧a7=true)∧a8=true)∧a9=true:=⟨an8 (an1 h).1,(an1 h).2⟩
omit hcx in
theorem q8y {a0 a1 a2 a3 a4 a5 a6 a7 a8 a9 a10:Bool} (h:(a0 && a1 && a2 && a3 && a4 && a5 && a6 && a7 && a8 && a9 && a10)=true):(((((((((a0=true∧a1=true)∧a2=true)∧a3=true)∧a4=true)∧a5=true)∧a6=true)∧a7=true)∧a8=true)∧a9=true)∧a10=true:=⟨an9 (an1 h).1,(an1 h).2⟩
omit hcx in
theorem an11 {a0 a1 a2 a3 a4 a5 a6 a7 a8 a9 a10 a11:Bool} (h:(a0 && a1 && a2 && a3 && a4 && a5 && a6 && a7 && a8 && a9 && a10 && a11)=true):((((((((((a0=true∧a1=true)∧a2=true)∧a3=true)∧a4=true)∧a5=true)∧a6=true)∧a7=true)∧a8=true)∧a9=true)∧a10=true)∧a11=true:=⟨q8y (an1 h).1,(an1 h).2⟩
omit hcx in
theorem an12 {a0 a1 a2 a3 a4 a5 a6 a7 a8 a9 a10 a11 a12:Bool} (h:(a0 && a1 && a2 && a3 && a4 && a5 && a6 && a7 && a8 && a9 && a10 && a11 && a12)=true):(((((((((((a0=true∧a1=true)∧a2=true)∧a3=true)∧a4=true)∧a5=true)∧a6=true)∧a7=true)∧a8=true)∧a9=true)∧a10=true)∧a11=true)∧a12=true:=⟨an11 (an1 h).1,(an1 h).2⟩
omit hcx in
theorem an13 {a0 a1 a2 a3 a4 a5 a6 a7 a8 a9 a10 a11 a12 a13:Bool} (h:(a0 && a1 && a2 && a3 && a4 && a5 && a6 && a7 && a8 && a9 && a10 && a11 && a12 && a13)=true):((((((((((((a0=true∧a1=true)∧a2=true)∧a3=true)∧a4=true)∧a5=true)∧a6=true)∧a7=true)∧a8=true)∧a9=true)∧a10=true)∧a11=true)∧a12=true)∧a13=true:=⟨an12 (an1 h).1,(an1 h).2⟩
omit hcx in
theorem an14 {a0 a1 a2 a3 a4 a5 a6 a7 a8 a9 a10 a11 a12 a13 a14:Bool} (h:(a0 && a1 && a2 && a3 && a4 && a5 && a6 && a7 && a8 && a9 && a10 && a11 && a12 && a13 && a14)=true):(((((((((((((a0=true∧a1=true)∧a2=true)∧a3=true)∧a4=true)∧a5=true)∧a6=true)∧a7=true)∧a8=true)∧a9=true)∧a10=true)∧a11=true)∧a12=true)∧a13=true)∧a14=true:=⟨an13 (an1 h).1,(an1 h).2⟩
omit hcx in
theorem an15 {a0 a1 a2 a3 a4 a5 a6 a7 a8 a9 a10 a11 a12 a13 a14 a15:Bool} (h:(a0 && a1 && a2 && a3 && a4 && a5 && a6 && a7 && a8 && a9 && a10 && a11 && a12 && a13 && a14 && a15)=true):((((((((((((((a0=true∧a1=true)∧a2=true)∧a3=true)∧a4=true)∧a5=true)∧a6=true)∧a7=true)∧a8=true)∧a9=true)∧a10=true)∧a11=true)∧a12=true)∧a13=true)∧a14=true)∧a15=true:=⟨an14 (an1 h).1,(an1 h).2⟩
omit hcx in
theorem an16 {a0 a1 a2 a3 a4 a5 a6 a7 a8 a9 a10 a11 a12 a13 a14 a15 a16:Bool} (h:(a0 && a1 && a2 && a3 && a4 && a5 && a6 && a7 && a8 && a9 && a10 && a11 && a12 && a13 && a14 && a15 && a16)=true):(((((((((((((((a0=true∧a1=true)∧a2=true)∧a3=true)∧a4=true)∧a5=true)∧a6=true)∧a7=true)∧a8=true)∧a9=true)∧a10=true)∧a11=true)∧a12=true)∧a13=true)∧a14=true)∧a15=true)∧a16=true:=⟨an15 (an1 h).1,(an1 h).2⟩
omit hcx in
theorem an17 {a0 a1 a2 a3 a4 a5 a6 a7 a8 a9 a10 a11 a12 a13 a14 a15 a16 a17:Bool} (h:(a0 && a1 && a2 && a3 && a4 && a5 && a6 && a7 && a8 && a9 && a10 && a11 && a12 && a13 && a14 && a15 && a16 && a17)=true):((((((((((((((((a0=true∧a1=true)∧a2=true)∧a3=true)∧a4=true)∧a5=true)∧a6=true)∧a7=true)∧a8=true)∧a9=true)∧a10=true)∧a11=true)∧a12=true)∧a13=true)∧a14=true)∧a15=true)∧a16=true)∧a17=true:=⟨an16 (an1 h).1,(an1 h).2⟩
omit hcx in
theorem emp {α:Type} {l:List α} (h:l.isEmpty=true):l=[]:=List.isEmpty_iff.mp h
omit hcx in
theorem emp1 {α:Type} {o:Option α} (h:o.isNone=true):o=none:=Option.isNone_iff_eq_none.mp h
omit hcx in
theorem sA0 {s:Sx}:∀ (c:CL),qjb s c []=true→evA Φ s.fns c=fun _=>M.pure []
 | .nil,_=>by rw[evA]
 | .cons a r,h=>by exact nb h
include hcx
mutual
theorem sE:∀ (c:CE) {s:Sx} {X:Cx} {E':XK} {e:Expr},Gd CX Φ s X E'→qah s c e=true→PE X e (tD (xw E') (evE Φ s.fns c))
 | .var i,s,X,E',e,G,h=>by
   cases e <;> first | exact nb h | skip
   rw[evE];exact G.var h
 | .int i,s,X,E',e,G,h=>by
   cases e <;> first | exact nb h | skip
   rename_i k _ _
   cases k <;> first | exact nb h | skip
   cases dec h;rw[evE];exact qhp qlj fun _ _=>rfl
 | .str i,s,X,E',e,G,h=>by
   cases e <;> first | exact nb h | skip
   rename_i k _ _
   cases k <;> first | exact nb h | skip
   cases dec h;rw[evE];exact qhp q5q fun _ _=>rfl
 | .bl i,s,X,E',e,G,h=>by
   cases e <;> first | exact nb h | skip
   rename_i k _ _
   cases k <;> first | exact nb h | skip
   cases dec h;rw[evE];exact qhp q9n fun _ _=>rfl
 | .non,s,X,E',e,G,h=>by
   cases e <;> first | exact nb h | skip
   rename_i k _ _
   cases k <;> first | exact nb h | skip
   rw[evE];exact qhp q5p fun _ _=>rfl
 | .ty n,s,X,E',e,G,h=>by
   cases e <;> first | exact nb h | skip
   rename_i x p
   replace h:=an2 h
   obtain ⟨⟨hx,hb⟩,hn⟩:=h
   obtain ⟨g1,g2,g3,g4⟩:=G.bl hb
   cases dec hx
   rw[evE]
   exact qhp (q19 (v:=.ty n) g1 g4 (q31 hn) rfl g3 g2) fun _ _=>rfl
 | .bin new op a b,s,X,E',e,G,h=>by
   cases e <;> first | exact nb h | skip
   replace h:=an2 h
   cases dec h.1.1
   rw[evE]
   exact r_op (q7c _) (sE a G h.1.2) (sE b G h.2)
 | .neg a,s,X,E',e,G,h=>by
   cases e <;> first | exact nb h | skip
   rename_i o _ _
   cases o <;> first | exact nb h | skip
   rw[evE];exact qaaz (sE a G h)
 | .cmp op a b,s,X,E',e,G,h=>by
   cases e <;> first | exact nb h | skip
   rename_i x os ys _
   rcases os with _ | ⟨o,_ | ⟨_,_⟩⟩ <;> first | exact nb h | skip
   rcases ys with _ | ⟨y,_ | ⟨_,_⟩⟩ <;> first | exact nb h | skip
   replace h:=an3 h
   cases dec h.1.1.1
   rw[evE]
   exact qaay (qi0 G.units _) (sE a G h.1.2) (sE b G h.2) (ql9 h.1.1.2)
 | .chain o p a b c,s,X,E',e,G,h=>by
   cases e <;> first | exact nb h | skip
   rename_i x os ys _
   rcases os with _ | ⟨o',_ | ⟨p',_ | ⟨_,_⟩⟩⟩ <;> first | exact nb h | skip
   rcases ys with _ | ⟨y,_ | ⟨z,_ | ⟨_,_⟩⟩⟩ <;> first | exact nb h | skip
   replace h:=an5 h
   cases dec h.1.1.1.1.1
   cases dec h.1.1.1.1.2
   rw[evE]
   exact q28 (qi0 G.units _) (qi0 G.units _) (sE a G h.1.1.2) (sE b G h.1.2) (sE c G h.2) (qpe h.1.1.1.2)
 | .and a b,s,X,E',e,G,h=>by
   cases e <;> first | exact nb h | skip
   rename_i o xs _
   cases o <;> first | exact nb h | skip
   rcases xs with _ | ⟨x,_ | ⟨y,r⟩⟩ <;> first | exact nb h | skip
   replace h:=an1 h
   rw[evE];exact qaa2 (sE a G h.1) (sE b G h.2)
 | .or a b,s,X,E',e,G,h=>by
   cases e <;> first | exact nb h | skip
   rename_i o xs _
   cases o <;> first | exact nb h | skip
   rcases xs with _ | ⟨x,_ | ⟨y,r⟩⟩ <;> first | exact nb h | skip
   replace h:=an1 h
   rw[evE];exact r_or (sE a G h.1) (sE b G h.2)
 | .one a,s,X,E',e,G,h=>by
   cases e <;> first | exact nb h | skip
   rename_i op xs p
   rcases xs with _ | ⟨x,_ | ⟨_,_⟩⟩ <;> first | exact nb h | skip
   rw[evE];exact qaa1 (sE a G h)
 | .not a,s,X,E',e,G,h=>by
   cases e <;> first | exact nb h | skip
   rename_i o _ _
   cases o <;> first | exact nb h | skip
   rw[evE];exact qaa3 (sE a G h)
 | .ife c a b,s,X,E',e,G,h=>by
   cases e <;> first | exact nb h | skip
   replace h:=an2 h
   rw[evE];exact qaa4 (sB c G h.1.1) (sE a G h.1.2) (sE b G h.2)
 | .tup as,s,X,E',e,G,h=>by
   cases e <;> first | exact nb h | skip
   rw[evE];exact qaa6 (sA as G h)
 | .lst new as,s,X,E',e,G,h=>by
   cases e <;> first | exact nb h | skip
   rw[evE];exact qaa7 (sA as G h)
 | .dnil new,s,X,E',e,G,h=>by
   cases e <;> first | exact nb h | skip
   rename_i ks vs _
   cases ks <;> first | exact nb h | skip
   cases vs <;> first | exact nb h | skip
   rw[evE];exact q7q
 | .ix a i,s,X,E',e,G,h=>by
   cases e <;> first | exact nb h | skip
   replace h:=an2 h
   rw[evE];exact r_ix (qaa8 G.units1) (sE a G h.1.2) (sE i G h.2) (q0e h.1.1)
 | .sl new a lo hi,s,X,E',e,G,h=>by
   cases e <;> first | exact nb h | skip
   rename_i _ y _
   cases y <;> first | exact nb h | skip
   rename_i st _
   cases st <;> first | exact nb h | skip
   replace h:=an2 h
   rw[evE];exact r_sl (sE a G h.1.1) (sO lo G h.1.2) (sO hi G h.2)
 | .call j as,s,X,E',e,G,h=>by
   cases e <;> first | exact nb h | skip
   rename_i fn es ks q
   cases fn <;> first | exact nb h | skip
   cases ks <;> first | exact nb h | skip
   rename_i x p
   replace h:=an3 h
   obtain ⟨⟨⟨hg,hf⟩,hst⟩,ha⟩:=h
   obtain ⟨g1,g2,g3⟩:=G.gl hg
   split at hf
   · rename_i y n k hj
     simp only [Bool.and_eq_true]at hf
     obtain ⟨⟨h1,h2⟩,h3⟩:=hf
     cases dec h1
     obtain ⟨F,hF,FT⟩:=G.fns j x n k hj
     rw[evE]
     have hA:=sA as G ha
     have e1:qg Φ s.fns j=qp n F:=by funext ds;unfold qg;rw[hF,hj]
     rw[e1]
     cases es with
     | nil =>
       have h2:n=0:=dec h2
       subst h2
       refine PE.mono (q3n FT G.room (dec h3) g1 G.pass g2) fun σ H Q ⟨w,Γ,S,rel,hold,z⟩=>⟨w,Γ,S,rel,hold,?_⟩
       have:evA Φ s.fns as=fun _=>M.pure []:=sA0 as ha
       rw[this]at z
       exact z
     | cons e es =>
       have hst':=hst
       rw[List.all_cons,Bool.and_eq_true]at hst'
       exact q8j FT G.room (dec h3) g1 G.pass hA g2 (qao hst'.1) (ql8 hst'.2)
   · cases hf
 | .bi b as,s,X,E',e,G,h=>by
   cases e <;> first | exact nb h | skip
   rename_i fn es ks q
   cases fn <;> first | exact nb h | skip
   cases ks <;> first | exact nb h | skip
   rename_i x p
   replace h:=an4 h
   obtain ⟨⟨⟨⟨h1,h2⟩,h3⟩,h4⟩,h5⟩:=h
   rw[evE]
   cases es with
   | nil=>cases h3
   | cons e es=>exact qabu G b h1 (dec h2) h4 (sA as G h5)
 | .mt m o as,s,X,E',e,G,h=>by
   cases e <;> first | exact nb h | skip
   rename_i fn es ks q
   cases fn <;> first | exact nb h | skip
   cases ks <;> first | exact nb h | skip
   replace h:=an6 h
   obtain ⟨⟨⟨⟨⟨⟨h1,h2⟩,h3⟩,h4⟩,h5⟩,h6⟩,h7⟩:=h
   rw[evE]
   exact qabv G m (dec h1) h2 h3 h4 (dec h5) (sE o G h6) (sA as G h7) fun z=>by subst z;exact sA0 as h7
 | .lc new n t i c el,s,X,E',e,G,h=>by
   cases e <;> first | exact nb h | skip
   rename_i x gs scope p
   rcases gs with _ | ⟨g,_ | ⟨_,_⟩⟩ <;> first | exact nb h | skip
   replace h:=an9 h
   obtain ⟨⟨⟨⟨⟨⟨⟨⟨⟨h1,h2⟩,h3⟩,h4⟩,h5⟩,h6⟩,h7⟩,h8⟩,h9⟩,h10⟩:=h
   obtain ⟨tg,it,ifs,asy⟩:=g
   dsimp only at h1 h2 h3 h4 h5 h8 h9 h10
   cases dec h1
   have hn:=dec h10
   subst hn
   rw[evE]
   generalize qja s.N tg=Mk at *
   generalize qak tg=ts at *
   exact r_lc (E2:=xw E0) (qfz G.hN G.hsc h2) G.calm (sI i G h4) (fun C fp s₀ H₀=>sG (s:=s.inner ts Mk scope) t (G.inner hcx h2 C fp s₀ H₀) h5) (fun C fp s₀ H₀=>sF (s:=s.inner ts Mk scope) c (G.inner hcx h2 C fp s₀ H₀) h8) (fun C fp s₀ H₀=>sE (s:=s.inner ts Mk scope) el (G.inner hcx h2 C fp s₀ H₀) h9) (qcm h3)
     (fun k hk=>dec (List.all_eq_true.mp h6 k hk)) (qgq t h7)
 | .dc new n t i c k el,s,X,E',e,G,h=>by
   cases e <;> first | exact nb h | skip
   rename_i y x gs scope p
   rcases gs with _ | ⟨g,_ | ⟨_,_⟩⟩ <;> first | exact nb h | skip
   replace h:=q8y h
   obtain ⟨⟨⟨⟨⟨⟨⟨⟨⟨⟨h1,h2⟩,h3⟩,h4⟩,h5⟩,h6⟩,h7⟩,h8⟩,h9⟩,h9'⟩,h10⟩:=h
   obtain ⟨tg,it,ifs,asy⟩:=g
   dsimp only at h1 h2 h3 h4 h5 h8 h9 h9' h10
   cases dec h1
   have hn:=dec h10
   subst hn
   rw[evE]
   generalize qja s.N tg=Mk at *
   generalize qak tg=ts at *
   exact r_dc (E2:=xw E0) (qfz G.hN G.hsc h2) G.calm (sI i G h4) (fun C fp s₀ H₀=>sG (s:=s.inner ts Mk scope) t (G.inner hcx h2 C fp s₀ H₀) h5) (fun C fp s₀ H₀=>sF (s:=s.inner ts Mk scope) c (G.inner hcx h2 C fp s₀ H₀) h8) (fun C fp s₀ H₀=>sE (s:=s.inner ts Mk scope) k (G.inner hcx h2 C fp s₀ H₀) h9) (fun C fp s₀ H₀=>sE (s:=s.inner ts Mk scope) el (G.inner hcx h2 C fp s₀ H₀) h9') (qcm h3)
     (fun k hk=>dec (List.all_eq_true.mp h6 k hk)) (qgq t h7)
 | .frz a,s,X,E',e,G,h=>by
   rw[evE];exact qabo (sE a G h)
 | .lset a,s,X,E',e,G,h=>by
   cases e <;> first | exact nb h | skip
   rename_i fn es ks q
   cases fn <;> first | exact nb h | skip
   rcases es with _ | ⟨e,_ | ⟨_,_⟩⟩ <;> first | exact nb h | skip
   cases ks <;> first | exact nb h | skip
   cases e <;> first | exact nb h | skip
   rename_i fn2 es2 ks2 q2
   cases fn2 <;> first | exact nb h | skip
   rcases es2 with _ | ⟨z,_ | ⟨_,_⟩⟩ <;> first | exact nb h | skip
   cases ks2 <;> first | exact nb h | skip
   replace h:=an5 h
   obtain ⟨⟨⟨⟨⟨h1,h2⟩,h3⟩,h4⟩,h5⟩,h6⟩:=h
   cases dec h1
   cases dec h2
   obtain ⟨g1,_,_,g4⟩:=G.bl h3
   obtain ⟨k1,_,_,k4⟩:=G.bl h4
   rw[evE]
   exact q0k G.calm g1 g4 k1 k4 (sE a G h6) (qao h5)
 | .lc2 n n2 t i t2 i2 c el,s,X,E',e,G,h=>by
   cases e <;> first | exact nb h | skip
   rename_i x gs scope p
   rcases gs with _ | ⟨g,_ | ⟨g2,_ | ⟨_,_⟩⟩⟩ <;> first | exact nb h | skip
   replace h:=an17 h
   obtain ⟨⟨⟨⟨⟨⟨⟨⟨⟨⟨⟨⟨⟨⟨⟨⟨⟨h1,h2⟩,h3⟩,h4⟩,h5⟩,h6⟩,h7⟩,h8⟩,h9⟩,h10⟩,h11⟩,h12⟩,h13⟩,h14⟩,h15⟩,h16⟩,h17⟩,h18⟩:=h
   obtain ⟨tg,it,ifs,asy⟩:=g
   obtain ⟨tg2,it2,ifs2,asy2⟩:=g2
   dsimp only at h1 h2 h3 h4 h5 h6 h7 h8 h11 h12 h15 h16 h17
   cases dec h1
   cases dec h2
   have h3:=emp h3
   subst h3
   have hn:=dec h17
   subst hn
   rw[evE]
   generalize mkN s.N (qak tg2++qak tg)=Mk at *
   generalize qak tg2++qak tg=ts at *
   exact qabn (E2:=xw E0) (dec h18) (qfz G.hN G.hsc h4) G.calm (sI i G h7) (fun C fp s₀ H₀=>sG (s:=s.inner ts Mk scope) t (G.inner hcx h4 C fp s₀ H₀) h8) (fun C fp s₀ H₀=>sI (s:=s.inner ts Mk scope) i2 (G.inner hcx h4 C fp s₀ H₀) h11) (fun C fp s₀ H₀=>sG (s:=s.inner ts Mk scope) t2 (G.inner hcx h4 C fp s₀ H₀) h12) (fun C fp s₀ H₀=>sF (s:=s.inner ts Mk scope) c (G.inner hcx h4 C fp s₀ H₀) h15) (fun C fp s₀ H₀=>sE (s:=s.inner ts Mk scope) el (G.inner hcx h4 C fp s₀ H₀) h16) (qcm h5) (fun env=>qcm h6)
     (fun k hk=>dec (List.all_eq_true.mp h9 k hk)) (qgq t h10) (fun k hk=>dec (List.all_eq_true.mp h13 k hk)) (qgq t2 h14)
theorem sB:∀ (c:CB) {s:Sx} {X:Cx} {E':XK} {e:Expr},Gd CX Φ s X E'→qkz s c e=true→PT X e (tB (xw E') (evB Φ s.fns c))
 | .cmp op a b,s,X,E',e,G,h=>by
   cases e <;> first | exact nb h | skip
   rename_i x os ys _
   rcases os with _ | ⟨o,_ | ⟨_,_⟩⟩ <;> first | exact nb h | skip
   rcases ys with _ | ⟨y,_ | ⟨_,_⟩⟩ <;> first | exact nb h | skip
   replace h:=an3 h
   cases dec h.1.1.1
   rw[evB]
   exact q7i (qi0 G.units _) (sE a G h.1.2) (sE b G h.2) (ql9 h.1.1.2)
 | .chain o p a b c,s,X,E',e,G,h=>by
   cases e <;> first | exact nb h | skip
   rename_i x os ys _
   rcases os with _ | ⟨o',_ | ⟨p',_ | ⟨_,_⟩⟩⟩ <;> first | exact nb h | skip
   rcases ys with _ | ⟨y,_ | ⟨z,_ | ⟨_,_⟩⟩⟩ <;> first | exact nb h | skip
   replace h:=an5 h
   cases dec h.1.1.1.1.1
   cases dec h.1.1.1.1.2
   rw[evB]
   exact qz4 (qi0 G.units _) (qi0 G.units _) (sE a G h.1.1.2) (sE b G h.1.2) (sE c G h.2) (qpe h.1.1.1.2)
 | .and a b,s,X,E',e,G,h=>by
   cases e <;> first | exact nb h | skip
   rename_i o xs _
   cases o <;> first | exact nb h | skip
   rcases xs with _ | ⟨x,_ | ⟨y,r⟩⟩ <;> first | exact nb h | skip
   replace h:=an1 h
   rw[evB];exact(qz6 (sB a G h.1) (sW b G h.2)).pt
 | .or a b,s,X,E',e,G,h=>by
   cases e <;> first | exact nb h | skip
   rename_i o xs _
   cases o <;> first | exact nb h | skip
   rcases xs with _ | ⟨x,_ | ⟨y,r⟩⟩ <;> first | exact nb h | skip
   replace h:=an1 h
   rw[evB];exact(q45 (sB a G h.1) (sW b G h.2)).pt
 | .one a,s,X,E',e,G,h=>by
   cases e <;> first | exact nb h | skip
   rename_i op xs p
   rcases xs with _ | ⟨x,_ | ⟨_,_⟩⟩ <;> first | exact nb h | skip
   rw[evB]
   cases op with
   | And=>exact(qz5 (sB a G h)).pt
   | Or=>exact(q44 (sB a G h)).pt
 | .not a,s,X,E',e,G,h=>by
   cases e <;> first | exact nb h | skip
   rename_i o _ _
   cases o <;> first | exact nb h | skip
   rw[evB];exact q7m (sB a G h)
 | .tru a,s,X,E',e,G,h=>by
   replace h:=an1 h
   rw[evB];exact qaa0 (sE a G h.2) (q3o h.1)
theorem sW:∀ (c:CB) {s:Sx} {X:Cx} {E':XK} {op:BoolOp} {es:List Expr} {p:Pos},Gd CX Φ s X E'→qkz s c (.BoolOp op es p)=true→PW X (.BoolOp op es p) (tB (xw E') (evB Φ s.fns c))
 | .cmp _ a b,s,X,E',op,es,p,G,h=>by exact nb h
 | .chain _ _ a b c,s,X,E',op,es,p,G,h=>by exact nb h
 | .and a b,s,X,E',op,es,p,G,h=>by
   cases op <;> first | exact nb h | skip
   rcases es with _ | ⟨x,_ | ⟨y,r⟩⟩ <;> first | exact nb h | skip
   replace h:=an1 h
   rw[evB];exact qz6 (sB a G h.1) (sW b G h.2)
 | .or a b,s,X,E',op,es,p,G,h=>by
   cases op <;> first | exact nb h | skip
   rcases es with _ | ⟨x,_ | ⟨y,r⟩⟩ <;> first | exact nb h | skip
   replace h:=an1 h
   rw[evB];exact q45 (sB a G h.1) (sW b G h.2)
 | .one a,s,X,E',op,es,p,G,h=>by
   rcases es with _ | ⟨x,_ | ⟨_,_⟩⟩ <;> first | exact nb h | skip
   rw[evB]
   cases op with
   | And=>exact qz5 (sB a G h)
   | Or=>exact q44 (sB a G h)
 | .not a,s,X,E',op,es,p,G,h=>by exact nb h
 | .tru a,s,X,E',op,es,p,G,h=>by
   replace h:=an1 h
   cases h.1
theorem sF:∀ (c:CF) {s:Sx} {X:Cx} {E':XK} {es:List Expr},Gd CX Φ s X E'→q30 s c es=true→PF X es (tB (xw E') (evF Φ s.fns c))
 | .yes,s,X,E',es,G,h=>by
   have:es=[]:=emp h
   subst this
   rw[evF];exact q48
 | .if_ a,s,X,E',es,G,h=>by
   rcases es with _ | ⟨x,_ | ⟨_,_⟩⟩ <;> first | exact nb h | skip
   rw[evF];exact qabm (sB a G h)
theorem sA:∀ (c:CL) {s:Sx} {X:Cx} {E':XK} {es:List Expr},Gd CX Φ s X E'→qjb s c es=true→PA X es (tL (xw E') (evA Φ s.fns c))
 | .nil,s,X,E',es,G,h=>by
   have:es=[]:=emp h
   subst this
   rw[evA];exact qaa5
 | .cons a r,s,X,E',es,G,h=>by
   rcases es with _ | ⟨x,xs⟩ <;> first | exact nb h | skip
   replace h:=an2 h
   rw[evA];exact q7p (sE a G h.1.2) (sA r G h.2) (qao h.1.1)
theorem sO:∀ (c:CO) {s:Sx} {X:Cx} {E':XK} {o:Option Expr},Gd CX Φ s X E'→q8v s c o=true→PO X o (tO (xw E') (evO Φ s.fns c))
 | .no,s,X,E',o,G,h=>by
   have:o=none:=emp1 h
   subst this
   rw[evO];exact q3c
 | .at_ a,s,X,E',o,G,h=>by
   cases o <;> first | exact nb h | skip
   rw[evO];exact q3d (sE a G h)
theorem sI:∀ (c:CI) {s:Sx} {X:Cx} {E':XK} {t e:Expr},Gd CX Φ s X E'→qyk s c t e=true→PI X t e (tI (xw E') (evI Φ s.fns c))
 | .seq a,s,X,E',t,e,G,h=>by
   rw[evI];exact qabi (sE a G h)
 | .keys a,s,X,E',t,e,G,h=>by
   rw[evI];exact q8q (sE a G h)
 | .rng1 as,s,X,E',t,e,G,h=>by
   cases e <;> first | exact nb h | skip
   rename_i fn es ks q
   cases fn <;> first | exact nb h | skip
   rcases es with _ | ⟨y,_ | ⟨_,_⟩⟩ <;> first | exact nb h | skip
   cases ks <;> first | exact nb h | skip
   replace h:=an3 h
   obtain ⟨⟨⟨h1,h2⟩,h3⟩,h4⟩:=h
   obtain ⟨g1,g2,g3,g4⟩:=G.bl h2
   cases dec h1
   rw[evI];exact q8c g1 g4 (sA as G h4) (qao h3)
 | .rng2 as,s,X,E',t,e,G,h=>by
   cases e <;> first | exact nb h | skip
   rename_i fn es ks q
   cases fn <;> first | exact nb h | skip
   rcases es with _ | ⟨y,_ | ⟨z,_ | ⟨_,_⟩⟩⟩ <;> first | exact nb h | skip
   cases ks <;> first | exact nb h | skip
   replace h:=an4 h
   obtain ⟨⟨⟨⟨h1,h2⟩,h3⟩,h3'⟩,h4⟩:=h
   obtain ⟨g1,g2,g3,g4⟩:=G.bl h2
   cases dec h1
   rw[evI];exact q8d g1 g4 (sA as G h4) (by rw[qao h3,qao h3'];rfl) (qao h3')
 | .enum as,s,X,E',t,e,G,h=>by
   cases e <;> first | exact nb h | skip
   rename_i fn es ks q
   cases fn <;> first | exact nb h | skip
   rcases es with _ | ⟨y,_ | ⟨_,_⟩⟩ <;> first | exact nb h | skip
   cases ks <;> first | exact nb h | skip
   replace h:=an4 h
   obtain ⟨⟨⟨⟨h0,h1⟩,h2⟩,h3⟩,h4⟩:=h
   obtain ⟨g1,g2,g3,g4⟩:=G.bl h2
   cases dec h1
   rw[evI]
   cases t <;> first | (cases h0;done) | exact q8e g1 g4 (sA as G h4) (qao h3)
 | .zip as,s,X,E',t,e,G,h=>by
   cases e <;> first | exact nb h | skip
   rename_i fn es ks q
   cases fn <;> first | exact nb h | skip
   rcases es with _ | ⟨y,_ | ⟨z,_ | ⟨_,_⟩⟩⟩ <;> first | exact nb h | skip
   cases ks <;> first | exact nb h | skip
   replace h:=an5 h
   obtain ⟨⟨⟨⟨⟨h0,h1⟩,h2⟩,h3⟩,h3'⟩,h4⟩:=h
   obtain ⟨g1,g2,g3,g4⟩:=G.bl h2
   cases dec h1
   rw[evI]
   cases t <;> first | (cases h0;done) | exact qabj g1 g4 (sA as G h4) (by rw[qao h3,qao h3'];rfl) (qao h3')
theorem sG:∀ (c:CG) {s:Sx} {X:Cx} {E':XK} {e:Expr},Gd CX Φ s X E'→qsz s c e=true→PG X e (tG (xw E') (tgs c) (evG Φ s.fns c))
 | .nm i,s,X,E',e,G,h=>by
   cases e <;> first | exact nb h | skip
   obtain ⟨a,b,c⟩:=G.lc h
   rw[evG,tgs];exact q77 (by rw[G.hN];exact G.nd) a b c
 | .tg ts,s,X,E',e,G,h=>by
   cases e <;> first | exact nb h | skip
   replace h:=an2 h
   rw[evG,tgs];exact qabc G.calm (sT ts G h.2) (by rw[qpf];exact dec h.1.2) (qsu h.1.1)
 | .sub o i,s,X,E',e,G,h=>by
   cases e <;> first | exact nb h | skip
   replace h:=an2 h
   rw[evG,tgs];exact qabg G.units1 (sE o G h.1.2) (sE i G h.2) (q3p h.1.1)
theorem sT:∀ (c:CT) {s:Sx} {X:Cx} {E':XK} {es:List Expr},Gd CX Φ s X E'→q8w s c es=true→PGs X es (tGs (xw E') (q0m c) (evT Φ s.fns c))
 | .nil,s,X,E',es,G,h=>by
   have:es=[]:=emp h
   subst this
   rw[evT,q0m];exact qabb
 | .cons a r,s,X,E',es,G,h=>by
   rcases es with _ | ⟨x,xs⟩ <;> first | exact nb h | skip
   replace h:=an2 h
   rw[evT,q0m];exact q78 (sG a G h.1.2) (sT r G h.2) (by rw[qi7 h.1.1];rfl)
end
end
noncomputable def isLc:CE→Bool
 | .lc _ _ _ _ _ _=>true
 | _=>false
noncomputable def q49:CE→Bool
 | .dc _ _ _ _ _ _ _=>true
 | _=>false
noncomputable def swOk (s:Sx) (e:CE) (v:Expr) (x:Str) (p:Pos):Bool:=match v with
 | .ListComp _ _ scope q=>isLc e || !swB s.sc scope q.line p.line x
 | .DictComp _ _ _ scope q=>q49 e || !swB s.sc scope q.line p.line x
 | _=>qf2 v
mutual
noncomputable def chkS (s:Sx):CS→Stmt→Bool
 | .pass,st=>match st with
   | .Pass _=>true
   | _=>false
 | .ex a,st=>match st with
   | .Expr e _=>qf2 e && qah s a e
   | _=>false
 | .ret a,st=>match st with
   | .Return (some e) _=>qah s a e
   | _=>false
 | .retN,st=>match st with
   | .Return none _=>true
   | _=>false
 | .sif c a b,st=>match st with
   | .If z x y _=>qkz s c z && qme s a x && qme s b y
   | _=>false
 | .asg t e,st=>match st with
   | .Assign [g] v _=>notStar g && qf2 v && (qqj g || qqj v) && qsz s t g && qah s e v
   | _=>false
 | .set i e,st=>match st with
   | .Assign [.Name x p] v _=>qmd s i x && swOk s e v x p && qah s e v
   | _=>false
 | .par i j as,st=>match st with
   | .Assign [.Tuple [.Name x px,.Name y py] _ _] (.Tuple [a,b] _ _) _=>decide (s.N[i]? =some x) && decide (s.N[j]? =some y) && decide (i ≠ j) && q3q s.sc x y px py a b && qjb s as [a,b]
   | _=>false
 | .aug op i e,st=>match st with
   | .AugAssign (.Name x _) o v _=>decide (op=o) && qmd s i x && qah s e v
   | _=>false
 | .augIx op o i e,st=>match st with
   | .AugAssign (.Subscript x y _) q v _=>decide (op=q) && qd9 y && qah s o x && qah s i y && qah s e v
   | _=>false
 | .sfor t i b,st=>match st with
   | .For g it x [] _=>qcw it && qyk s i g it && qsz s t g && qme s b x
   | _=>false
 | .swhile c b,st=>match st with
   | .While z x [] _=>qkz s c z && qme s b x
   | _=>false
 | .brk,st=>match st with
   | .Break _=>true
   | _=>false
 | .cont,st=>match st with
   | .Continue _=>true
   | _=>false
noncomputable def qme (s:Sx):CSL→List Stmt→Bool
 | .nil,ss=>ss.isEmpty
 | .cons a r,ss=>match ss with
   | x::xs=>chkS s a x && qme s r xs
   | []=>false
 | .gh _ r,ss=>qme s r ss
end
section
variable {CX:CXT} {Φ:List Fd} (hcx:qqo CX)
include hcx
theorem q8z {s:Sx} {X:Cx} {E':XK} {i:Nat} {e:CE} {x:Str} {p q:Pos} {v:Expr} (G:Gd CX Φ s X E') (h1:qmd s i x=true) (h2:swOk s e v x p=true) (h3:qah s e v=true):PS X (.Assign [.Name x p] v q) (tS (xw E') fun Γ=>M.bind (evE Φ s.fns e Γ) fun d=>M.pure (.nx,Γ.set i (some d))):=by
 obtain ⟨a,b,c⟩:=G.lc h1
 have nd:X.N.Nodup:=by rw[G.hN];exact G.nd
 have other:qf2 v=true→PS X (.Assign [.Name x p] v q) (tS (xw E') fun Γ=>M.bind (evE Φ s.fns e Γ) fun d=>M.pure (.nx,Γ.set i (some d))):=fun h2=>qz9 nd a b (sE hcx e G h3) (qma h2) c
 cases v <;> first | exact other h2 | skip
 case ListComp el gens scope pos =>
   replace h2:=Bool.or_eq_true_iff.mp h2
   by_cases hw:swB s.sc scope pos.line p.line x=true
   · have hl:isLc e=true:=by
       rcases h2 with z | z
       · exact z
       · rw[hw]at z;cases z
     cases e <;> first | (cases hl;done) | skip
     rename_i new n t i' cf ce
     rcases gens with _ | ⟨g,_ | ⟨_,_⟩⟩ <;> first | exact nb h3 | skip
     · replace h3:=an9 h3
       obtain ⟨⟨⟨⟨⟨⟨⟨⟨⟨k1,k2⟩,k3⟩,k4⟩,k5⟩,k6⟩,k7⟩,k8⟩,k9⟩,k10⟩:=h3
       obtain ⟨tg,it,ifs,asy⟩:=g
       dsimp only at k1 k2 k3 k4 k5 k8 k9 k10
       cases dec k1
       have hn:=dec k10
       subst hn
       rw[evE]
       generalize qja s.N tg=Mk at *
       generalize qak tg=ts at *
       exact q3m (E2:=xw E0) nd a b (qfz G.hN G.hsc k2) G.calm (sI hcx i' G k4) (fun C fp s₀ H₀=>sG (s:=s.inner ts Mk scope) hcx t (G.inner hcx k2 C fp s₀ H₀) k5) (fun C fp s₀ H₀=>sF (s:=s.inner ts Mk scope) hcx cf (G.inner hcx k2 C fp s₀ H₀) k8)
         (fun C fp s₀ H₀=>sE (s:=s.inner ts Mk scope) hcx ce (G.inner hcx k2 C fp s₀ H₀) k9) (qcm k3) (by rw[q0f,G.hsc,hw]) c (fun k hk=>dec (List.all_eq_true.mp k6 k hk)) (qgq t k7)
   · exact qz9 nd a b (sE hcx e G h3) (by rw[q0f,G.hsc];simp only [Bool.not_eq_true]at hw;rw[hw]) c
 case DictComp kx el gens scope pos =>
   replace h2:=Bool.or_eq_true_iff.mp h2
   by_cases hw:swB s.sc scope pos.line p.line x=true
   · have hl:q49 e=true:=by
       rcases h2 with z | z
       · exact z
       · rw[hw]at z;cases z
     cases e <;> first | (cases hl;done) | skip
     rename_i new n t i' cf ck ce
     rcases gens with _ | ⟨g,_ | ⟨_,_⟩⟩ <;> first | exact nb h3 | skip
     · replace h3:=q8y h3
       obtain ⟨⟨⟨⟨⟨⟨⟨⟨⟨⟨k1,k2⟩,k3⟩,k4⟩,k5⟩,k6⟩,k7⟩,k8⟩,k9⟩,k9'⟩,k10⟩:=h3
       obtain ⟨tg,it,ifs,asy⟩:=g
       dsimp only at k1 k2 k3 k4 k5 k8 k9 k9' k10
       cases dec k1
       have hn:=dec k10
       subst hn
       rw[evE]
       generalize qja s.N tg=Mk at *
       generalize qak tg=ts at *
       exact q3u (E2:=xw E0) nd a b (qfz G.hN G.hsc k2) G.calm (sI hcx i' G k4) (fun C fp s₀ H₀=>sG (s:=s.inner ts Mk scope) hcx t (G.inner hcx k2 C fp s₀ H₀) k5) (fun C fp s₀ H₀=>sF (s:=s.inner ts Mk scope) hcx cf (G.inner hcx k2 C fp s₀ H₀) k8)
         (fun C fp s₀ H₀=>sE (s:=s.inner ts Mk scope) hcx ck (G.inner hcx k2 C fp s₀ H₀) k9) (fun C fp s₀ H₀=>sE (s:=s.inner ts Mk scope) hcx ce (G.inner hcx k2 C fp s₀ H₀) k9') (qcm k3) (by rw[qwp,G.hsc,hw]) c (fun k hk=>dec (List.all_eq_true.mp k6 k hk)) (qgq t k7)
   · exact qz9 nd a b (sE hcx e G h3) (by rw[qwp,G.hsc];simp only [Bool.not_eq_true]at hw;rw[hw]) c
mutual
theorem sS:∀ (c:CS) {s:Sx} {X:Cx} {E':XK} {st:Stmt},Gd CX Φ s X E'→chkS s c st=true→PS X st (tS (xw E') (evS Φ s.fns c))
 | .pass,s,X,E',st,G,h=>by
   cases st <;> first | exact nb h | skip
   rw[evS];exact q72
 | .ex a,s,X,E',st,G,h=>by
   cases st <;> first | exact nb h | skip
   replace h:=an1 h
   rw[evS];exact q74 (sE hcx a G h.2) (qma h.1)
 | .ret a,s,X,E',st,G,h=>by
   cases st <;> first | exact nb h | skip
   rename_i o _
   cases o <;> first | exact nb h | skip
   rw[evS];exact qaba (sE hcx a G h)
 | .retN,s,X,E',st,G,h=>by
   cases st <;> first | exact nb h | skip
   rename_i o _
   cases o <;> first | exact nb h | skip
   rw[evS];exact q75
 | .sif c a b,s,X,E',st,G,h=>by
   cases st <;> first | exact nb h | skip
   replace h:=an2 h
   rw[evS];exact s_if (sB hcx c G h.1.1) (sL a G h.1.2) (sL b G h.2)
 | .asg t e,s,X,E',st,G,h=>by
   cases st <;> first | exact nb h | skip
   rename_i gs v _
   rcases gs with _ | ⟨g,_ | ⟨_,_⟩⟩ <;> first | exact nb h | skip
   replace h:=an4 h
   obtain ⟨⟨⟨⟨h1,h2⟩,h3⟩,h4⟩,h5⟩:=h
   rw[evS];exact qabd (sE hcx e G h5) (sG hcx t G h4) (qwo h2) (qye h3) (by rw[qi7 h1];rfl)
 | .set i e,s,X,E',st,G,h=>by
   cases st <;> first | exact nb h | skip
   rename_i gs v _
   rcases gs with _ | ⟨g,tl⟩ <;> first | exact nb h | skip
   cases g <;> first | exact nb h | skip
   cases tl <;> first | exact nb h | skip
   replace h:=an2 h
   rw[evS];exact q8z hcx G h.1.1 h.1.2 h.2
 | .par i j as,s,X,E',st,G,h=>by
   cases st <;> first | exact nb h | skip
   rename_i gs v _
   rcases gs with _ | ⟨g,tl⟩ <;> first | exact nb h | skip
   cases g <;> first | exact nb h | skip
   rename_i ts _ _
   rcases ts with _ | ⟨g1,ts⟩ <;> first | exact nb h | skip
   cases g1 <;> first | exact nb h | skip
   rcases ts with _ | ⟨g2,ts⟩ <;> first | exact nb h | skip
   cases g2 <;> first | exact nb h | skip
   cases ts <;> first | exact nb h | skip
   cases tl <;> first | exact nb h | skip
   cases v <;> first | exact nb h | skip
   rename_i vs _ _
   rcases vs with _ | ⟨a,_ | ⟨b,_ | ⟨_,_⟩⟩⟩ <;> first | exact nb h | skip
   replace h:=an4 h
   obtain ⟨⟨⟨⟨h1,h2⟩,h3⟩,h4⟩,h5⟩:=h
   have h4':=h4
   unfold q3q at h4'
   simp only [Bool.and_eq_true,Bool.not_eq_true',beq_iff_eq]at h4'
   rw[evS]
   exact qabf G.calm (by rw[G.hN];exact G.nd) (by rw[G.hN];exact dec h1) (by rw[G.hN];exact dec h2) (dec h3) (by rw[G.hsc];exact h4'.1.1.1.1.1.2) (by rw[G.hsc];exact h4'.1.1.1.1.2) (sA hcx as G h5) (q3r (by rw[G.hsc];exact h4)) (qwo rfl)
 | .aug op i e,s,X,E',st,G,h=>by
   cases st <;> first | exact nb h | skip
   rename_i g o v _
   cases g <;> first | exact nb h | skip
   replace h:=an2 h
   cases dec h.1.1
   obtain ⟨a,b,c⟩:=G.lc h.1.2
   rw[evS];exact qabh (by rw[G.hN];exact G.nd) a b (sE hcx e G h.2) c
 | .augIx op o i e,s,X,E',st,G,h=>by
   cases st <;> first | exact nb h | skip
   rename_i g o v _
   cases g <;> first | exact nb h | skip
   replace h:=an4 h
   obtain ⟨⟨⟨⟨h1,h2⟩,h3⟩,h4⟩,h5⟩:=h
   cases dec h1
   rw[evS];exact q3j G.units1 (sE hcx o G h3) (sE hcx i G h4) (sE hcx e G h5) (q8o h2)
 | .sfor t i b,s,X,E',st,G,h=>by
   cases st <;> first | exact nb h | skip
   rename_i g it b' els _
   cases els <;> first | exact nb h | skip
   replace h:=an3 h
   obtain ⟨⟨⟨h1,h2⟩,h3⟩,h4⟩:=h
   rw[evS];exact qabk G.own G.calm (sI hcx i G h2) (sG hcx t G h3) (sL b G h4) (qcm h1)
 | .swhile c b,s,X,E',st,G,h=>by
   cases st <;> first | exact nb h | skip
   rename_i z b' els _
   cases els <;> first | exact nb h | skip
   replace h:=an1 h
   rw[evS];exact q3l G.own (sB hcx c G h.1) (sL b G h.2)
 | .brk,s,X,E',st,G,h=>by
   cases st <;> first | exact nb h | skip
   rw[evS];exact q3f
 | .cont,s,X,E',st,G,h=>by
   cases st <;> first | exact nb h | skip
   rw[evS];exact q73
theorem sL:∀ (c:CSL) {s:Sx} {X:Cx} {E':XK} {ss:List Stmt},Gd CX Φ s X E'→qme s c ss=true→PSs X ss (tS (xw E') (qt Φ s.fns c))
 | .nil,s,X,E',ss,G,h=>by
   have:ss=[]:=emp h
   subst this
   rw[qt];exact qaa9
 | .cons a r,s,X,E',ss,G,h=>by
   rcases ss with _ | ⟨x,xs⟩ <;> first | exact nb h | skip
   replace h:=an1 h
   rw[qt];exact q71 (sS a G h.1) (sL r G h.2)
 | .gh i r,s,X,E',ss,G,h=>by
   rw[qt];exact s_gh (sL r G h)
end
end
theorem nw0:qqo CX0:=fun _ _ _ _ _ h=>h
section
variable {P:Program} {w:World} {K:PySem.W.Frag} {mg:Str→Option Value} {base:Heap}
inductive FT (CX:CXT) (P:Program) (w:World) (K:PySem.W.Frag) (mg:Str→Option Value) (base:Heap):List (Str × Nat × Nat)→List Fd→Prop where
 | nil:FT CX P w K mg base [] []
 | cons {x:Str} {n k:Nat} {F:Fd} {r:List (Str × Nat × Nat)} {Φ:List Fd}:FnT CX P w K mg base x n k F→FT CX P w K mg base r Φ→FT CX P w K mg base ((x,n,k)::r) (F::Φ)
theorem FT.get {CX:CXT}:∀ {r:List (Str × Nat × Nat)} {Φ:List Fd},FT CX P w K mg base r Φ→∀ (j:Nat) (x:Str) (n k:Nat),r[j]? =some (x,n,k)→∃ F,Φ[j]? =some F∧FnT CX P w K mg base x n k F
 | _,_,.nil,j,x,n,k,e=>by simp at e
 | _,_,.cons h t,0,x,n,k,e=>by
   simp at e
   obtain ⟨rfl,rfl,rfl⟩:=e
   exact⟨_,rfl,h⟩
 | _,_,.cons h t,j+1,x,n,k,e=>by
   obtain ⟨F,e1,e2⟩:=t.get j x n k (by simpa using e)
   exact⟨F,by simpa using e1,e2⟩
theorem q0o {Φ:List Fd} {s:Sx} {N ps:List Str} {qual:Str} {sc:Scope} {f:Addr} {cdv:Value} {A:Around} {outer:List PySem.Env} {s₀:Shared} {H:Hp} {E E':XK} (S:qc0 N ps sc) (hN:s.N=N) (hsc:s.sc=sc) (hf:s.fnb=fun _=>true) (hr:qcy s.L (A.deeper (envOfC qual sc s₀.heap.objs.size f cdv)))
   (hb:∀ b ∈ s.bs,mg b=none) (hF:FT CX0 P w K mg base s.fns Φ):Gd CX0 Φ s (qno CX0 P w K mg base N qual sc f cdv A outer s₀ H E).nox E' where
 hN:=hN.symm
 hsc:=hsc.symm
 hfn:=hf.symm
 calm:=rfl
 room:=hr
 own:=PassesOwn.never
 pass:=fun _ _ _ _ _ _ _ h=>False.elim h
 nd:=by rw[hN];exact S.nd
 blt:=hb
 fns:=fun j x n k e=>hF.get j x n k e
theorem q80 {x qual:Str} {st:Stmt} {f:Addr} {fd:FuncData} {N ps:List Str} {k:Nat} {c:CSL} {fns:List (Str × Nat × Nat)} {Φ:List Fd} {bs:List Str} (F:Fun K x qual st f fd) (S:qc0 N ps (qf st)) (hb:∀ b ∈ bs,mg b=none) (hF:FT CX0 P w K mg base fns Φ)
   (h:qme ⟨N,qf st,fun _=>true,fns,k,bs⟩ c (qa4 st)=true):qek P w K mg base CX0 (k+1) f fd ps (spT ps.length (qa9 (qt Φ fns c) (N.length - ps.length))) :=
 fn_T F S fun cdv A outer s H E hr=>sL nw0 c (q0o (s:=⟨N,qf st,fun _=>true,fns,k,bs⟩) S rfl rfl rfl hr hb hF) h
theorem q5a {x:Str} {n k:Nat} {F:Fd} {f:Addr} {fd:FuncData} {ps:List Str} (G:qek P w K mg base CX0 k f fd ps (spT n F)) (m:mg x=some (.ref f)) (kp:PySem.W.keepIn K (.ref f)=true) (b:Binds K fd ps []):FnT CX0 P w K mg base x n k F:=⟨f,fd,ps,G,m,kp,b⟩
noncomputable def sp_law (K:PySem.W.Frag):Sp:=fun vs H Q _=>∃ (a:Addr) (ns:List Int),vs=[.ref a]∧SqL K H a (ns.map V.int)∧ns.length≤63∧∀ H',Q (.bl true) H'
noncomputable def sp_box (K:PySem.W.Frag):Sp:=fun vs H Q _=>∃ (a:Addr) (ns:List Int),vs=[.ref a]∧SqL K H a (ns.map V.int)∧ns.length≤63 ∧
 ∀ (b c:Addr) (ms:List Int) (H':Hp),H b=none→H c=none→c ≠ b→qgi H H'→H' b=some (.lst [.ref c,.int 0,.int 0,.int 17])→H' c=some (.lst (ms.map V.int))→Q (.ref b) H'
noncomputable def q0p (ms:List Int):Cell:=.lst [.lst (ms.map D.int),.int 0,.int 0,.int 17]
theorem qb.ints {w:Wd} {H:Hp}:∀ (ms:List Int),qb w H (ms.map D.int) (ms.map V.int)
 | []=>rfl
 | m::ms=>⟨_,_,rfl,rfl,qb.ints ms⟩
theorem q81 {st:Stmt} {rest:List Stmt} {f:Addr} {fd:FuncData} {N:List Str} {bx:Str} {p1 p2 p3 p4 p5:Pos} {k kb:Nat} {c:CSL} {fns:List (Str × Nat × Nat)} {Φ:List Fd} {bs:List Str} (F:Fun K "law" "law" st f fd) (S:qc0 N ["_law_script"] (qf st))
   (hst:qa4 st=.Assign [.Name bx p1] (.Call (.Name "_law_box" p2) [.Name "_law_script" p3] [] p4) p5::rest) (hx:qmd ⟨N,qf st,fun _=>true,fns,k,bs⟩ 1 bx=true) (hy:qmc ⟨N,qf st,fun _=>true,fns,k,bs⟩ 0 "_law_script"=true) (hg:q0l ⟨N,qf st,fun _=>true,fns,k,bs⟩ "_law_box"=true)
   (Gb:Fn P w K mg base "_law_box" ["_law_script"] kb (sp_box K)) (hk:kb≤k) (hb:∀ b ∈ bs,mg b=none) (hF:FT CX0 P w K mg base fns Φ) (h:qme ⟨N,qf st,fun _=>true,fns,k,bs⟩ c rest=true)
   (hl:∀ (a:Addr) (ms:List Int),∃ Γ' S',qt Φ fns c (some (.at_ a)::some (.ref 0)::List.replicate (N.length - 2) none) [q0p ms]=.ok (.rt (.bl true),Γ') S'):qek P w K mg base CX0 (k+1) f fd ["_law_script"] (sp_law K):=by
 refine F.ok S (fun vs H Q E h=> ?_) (fun cdv A outer s H vs Q E hr h'=> ?_)
 · obtain ⟨a,ns,rfl,_⟩:=h
   rfl
 · obtain ⟨a,ns,rfl,hS,hlen,kq⟩:=h'
   have G:Gd CX0 Φ ⟨N,qf st,fun _=>true,fns,k,bs⟩ (qno CX0 P w K mg base N "law" (qf st) f cdv A outer s H E).nox E0:=q0o S rfl rfl rfl hr hb hF
   obtain ⟨g1,g2,g3⟩:=G.lc hx
   obtain ⟨g4,g5,g6⟩:=G.gl hg
   have hy':=hy
   unfold qmc at hy'
   simp only [Bool.and_eq_true,Bool.not_eq_true',decide_eq_true_eq]at hy'
   have h0:PE (qno CX0 P w K mg base N "law" (qf st) f cdv A outer s H E).nox (.Name "_law_script" p3) (q5o 0):=quq hy'.1.1.1 (q0n hy'.1.1.2) hy'.1.2 hy'.2
   have h1:=qaal (pos:=p4) (p:=p2) Gb hr hk g4 (qcz h0 qis rfl) g5 rfl rfl
   have h2:=sL nw0 c G h
   refine⟨_,by rw[hst];exact qry (qy3 (i:=1) (pos:=p5) (pos':=p1) S.nd g1 g2 h1 rfl g3) h2,?_⟩
   refine⟨.ref a,rfl,a,ns,rfl,hS,hlen,fun b c' ms H' hb hc hne hs e1 e2=> ?_⟩
   have hN2:2≤N.length:=by have:=(List.getElem?_eq_some_iff.mp g1).1;exact this
   have hsz:(L2.start N [V.ref a]).set 1 (some (.ref b))=some (.ref a)::some (.ref b)::List.replicate (N.length - 2) none:=by
     unfold L2.start
     obtain ⟨m,hm⟩:∃ m,N.length=m+2:=⟨N.length - 2,by omega⟩
     rw[hm]
     simp [List.replicate_succ]
   obtain ⟨Γ',S',he⟩:=hl a ms
   refine⟨⟨[b],fun z=>z=c'⟩,some (.at_ a)::some (.ref 0)::List.replicate (N.length - 2) none,[q0p ms],?_,?_,?_⟩
   · rw[hsz]
     refine⟨by simp,fun i d e=> ?_⟩
     match i with
     | 0=>simp at e;subst e;exact⟨.ref a,rfl,rfl⟩
     | 1=>simp at e;subst e;exact⟨.ref b,rfl,b,rfl,rfl⟩
     | i+2=>simp [List.getElem?_replicate]at e
   · refine⟨fun z hz=>by rw[hz,e2];simp,rfl,by simp,fun z hz=>by rw[List.mem_singleton.mp hz,e1];simp,fun l a' cc ea ec=> ?_⟩
     match l with
     | 0 =>
       simp at ea ec
       subst ea ec
       exact⟨Ne.symm hne,_,e1,⟨_,_,rfl,⟨c',_,rfl,rfl,e2,qb.ints ms⟩,_,_,rfl,rfl,_,_,rfl,rfl,_,_,rfl,rfl,rfl⟩⟩
     | l+1=>simp at ea
   · rw[he]
     intro w' H'' _ _ v rv
     cases (show v=.bl true from rv)
     exact kq _
end
theorem len0 {α:Type} {P:List α→Prop} (h:P []):∀ us:List α,us.length=0→P us
 | [],_=>h
 | _::_,e=>by cases e
theorem qyl {α:Type} {P:List α→Prop} (h:∀ a,P [a]):∀ us:List α,us.length=1→P us
 | [],e=>by cases e
 | a::r,e=>len0 (P:=fun r=>P (a::r)) (h a) r (Nat.succ.inj e)
theorem qgc {α:Type} {P:List α→Prop} (h:∀ a b,P [a,b]):∀ us:List α,us.length=2→P us
 | [],e=>by cases e
 | a::r,e=>qyl (P:=fun r=>P (a::r)) (h a) r (Nat.succ.inj e)
theorem qs0 {α:Type} {P:List α→Prop} (h:∀ a b c,P [a,b,c]):∀ us:List α,us.length=3→P us
 | [],e=>by cases e
 | a::r,e=>qgc (P:=fun r=>P (a::r)) (h a) r (Nat.succ.inj e)
theorem len4 {α:Type} {P:List α→Prop} (h:∀ a b c d,P [a,b,c,d]):∀ us:List α,us.length=4→P us
 | [],e=>by cases e
 | a::r,e=>qs0 (P:=fun r=>P (a::r)) (h a) r (Nat.succ.inj e)
noncomputable def q82 (N P:List Str) (sc:Scope):Bool:=decide (sc.kind=.function) && !sc.isCoroutine && !sc.isGenerator && decide N.Nodup && decide (N.take P.length=P) && (P.all fun x=>decide (sc.names.lookup x=some .local) || decide (sc.names.lookup x=some .cell)) && sc.names.all fun y=>decide (y.2 ≠ .free)
theorem qld {N P:List Str} {sc:Scope} (h:q82 N P sc=true):qc0 N P sc:=by
 simp only [q82,Bool.and_eq_true,Bool.not_eq_true',decide_eq_true_eq,List.all_eq_true,Bool.or_eq_true]at h
 obtain ⟨⟨⟨⟨⟨⟨h1,h2⟩,h3⟩,h4⟩,h5⟩,h6⟩,h7⟩:=h
 exact⟨h1,h2,h3,h4,h5,h6,h7⟩
noncomputable def dOk (N P:List Str) (st:Stmt) (fns:List (Str × Nat × Nat)) (k:Nat) (bs:List Str) (c:CSL):Bool:=q82 N P (qf st) && qme ⟨N,qf st,fun _=>true,fns,k,bs⟩ c (qa4 st)
section
variable {P:Program} {w:World} {K:PySem.W.Frag} {mg:Str→Option Value} {base h:Heap} {x:Str} {f:Addr} {st:Stmt} {oc kV dc pm cd ct:Value} {od an:Option Addr} {sl:Array (Option Value)} {N ps:List Str} {k:Nat} {c:CSL} {fns:List (Str × Nat × Nat)} {Φ:List Fd} {bs:List Str}
theorem qu (X:K.In h) (G:h.Ns mainGlobals mg) (a:PySem.W.nsIn K mainGlobals x=some (some (.ref f))) (l:K.lookup f=some ⟨oc,od,.func (PySem.W.fnOf x x (qc1 st) (qa4 st) (qf st) .none kV dc pm an cd ct),sl⟩) (q:PySem.W.codeIn K cd x=true) (kp:PySem.W.keepIn K (.ref f)=true)
   (hb:∀ us:List Value,us.length=ps.length→bindArgs (PySem.W.fnOf x x (qc1 st) (qa4 st) (qf st) .none kV dc pm an cd ct) ⟨us,[]⟩=pure (ps.zip us)) (B:∀ b ∈ bs,mg b=none) (hF:FT CX0 P w K mg base fns Φ) (h:dOk N ps st fns k bs c=true) :
   FnT CX0 P w K mg base x ps.length (k+1) (qa9 (qt Φ fns c) (N.length - ps.length)):=by
 have F:=qp8 (st:=st) l q kp
 unfold dOk at h
 rw[Bool.and_eq_true]at h
 exact q5a (q80 F (qld h.1) B hF h.2) (PySem.W.mg_of X G a) kp (.all hb)
theorem qab0 {n:Nat} (X:K.In h) (G:h.Ns mainGlobals mg) (a:PySem.W.nsIn K mainGlobals x=some (some (.ref f))) (l:K.lookup f=some ⟨oc,od,.func (PySem.W.fnOf x x (qc1 st) (qa4 st) (qf st) .none kV dc pm an cd ct),sl⟩) (q:PySem.W.codeIn K cd x=true) (kp:PySem.W.keepIn K (.ref f)=true)
   (hb:∀ us:List Value,us.length=ps.length→bindArgs (PySem.W.fnOf x x (qc1 st) (qa4 st) (qf st) .none kV dc pm an cd ct) ⟨us,[]⟩=pure (ps.zip us)) (S:qc0 N ps (qf st)):FnT CX0 P w K mg base x n 1 (fun _=>M.fail) :=
 q5a ((qp8 (st:=st) l q kp).ok (sp:=spT n fun _=>M.fail) S (fun vs H Q E h=>by obtain ⟨_,_,_,_,_,_,q⟩:=h;exact False.elim q) (fun cdv A outer s H vs Q E hr h=>by obtain ⟨_,_,_,_,_,_,q⟩:=h;exact False.elim q)) (PySem.W.mg_of X G a) kp (.all hb)
end
noncomputable def Ok {α:Type} (r:Out α) (P:α→Sto→Prop):Prop:=match r with
 | .ok a S=>P a S
 | _=>False
@[simp] theorem qaff {α:Type} {a:α} {S:Sto} {P:α→Sto→Prop}:Ok (.ok a S) P=P a S:=(rfl)
theorem qap {α β:Type} {m:M α} {k:α→M β} {S:Sto} {P:β→Sto→Prop}:Ok (M.bind m k S) P=Ok (m S) (fun a S1=>Ok (k a S1) P):=by
 unfold M.bind
 cases m S <;> rfl
theorem Ok.mono {α:Type} {r:Out α} {P Q:α→Sto→Prop} (h:Ok r Q) (k:∀ a S,Q a S→P a S):Ok r P:=by
 cases r with
 | ok a S=>exact k a S h
 | err x S=>exact h
 | no=>exact h
theorem qbz {c:Prop} [Decidable c] {A B:Prop} (h1:c→A) (h2:¬ c→B):if c then A else B:=by
 by_cases h:c
 · rw[if_pos h];exact h1 h
 · rw[if_neg h];exact h2 h
@[simp] theorem pure_run {α:Type} {a:α} {S:Sto}:M.pure a S=.ok a S:=(rfl)
section
variable {Φ:List Fd} {f:List (Str × Nat × Nat)} {Γ:Env} {S:Sto} {P:D→Sto→Prop}
theorem okb {α β:Type} {m:M α} {k:α→M β} {S:Sto} {P:β→Sto→Prop}:Ok (M.bind m k S) P=Ok (m S) (fun a S1=>Ok (k a S1) P):=qap
@[simp] theorem qafg {i:Nat}:Ok (evE Φ f (.var i) Γ S) P=Ok (qfg i Γ S) P:=by rw[evE]
@[simp] theorem qafh {i:Int}:Ok (evE Φ f (.int i) Γ S) P=P (.int i) S:=by rw[evE];rfl
@[simp] theorem qafi {i:Str}:Ok (evE Φ f (.str i) Γ S) P=P (.str i) S:=by rw[evE];rfl
@[simp] theorem k_bl {i:Bool}:Ok (evE Φ f (.bl i) Γ S) P=P (.bl i) S:=by rw[evE];rfl
@[simp] theorem qafj:Ok (evE Φ f .non Γ S) P=P .non S:=by rw[evE];rfl
@[simp] theorem k_ty {n:String}:Ok (evE Φ f (.ty n) Γ S) P=P (.ty n) S:=by rw[evE];rfl
@[simp] theorem qafk {nw:Bool} {op:Operator} {a b:CE}:Ok (evE Φ f (.bin nw op a b) Γ S) P=Ok (evE Φ f a Γ S) fun x S1=>Ok (evE Φ f b Γ S1) fun y S2=>Ok (qgn nw op x y S2) P:=by rw[evE,okb];simp only [okb]
@[simp] theorem qafl {a:CE}:Ok (evE Φ f (.neg a) Γ S) P=Ok (evE Φ f a Γ S) fun x S1=>Ok (qu4 x S1) P:=by rw[evE,okb]
@[simp] theorem qafm {op:CmpOp} {a b:CE}:Ok (evE Φ f (.cmp op a b) Γ S) P=Ok (evE Φ f a Γ S) fun x S1=>Ok (evE Φ f b Γ S1) fun y S2=>Ok (qa8 op x y S2) P:=by rw[evE,okb];simp only [okb]
@[simp] theorem qac1 {o p:CmpOp} {a b c:CE}:Ok (evE Φ f (.chain o p a b c) Γ S) P=Ok (evE Φ f a Γ S) fun x S1=>Ok (evE Φ f b Γ S1) fun y S2=>Ok (qa8 o x y S2) fun z S3=>Ok (asB z S3) fun d S4=>if d=true then Ok (evE Φ f c Γ S4) fun u S5=>Ok (qa8 p y u S5) P else P (.bl false) S4:=by
 rw[evE];unfold qi2;rw[okb];simp only [okb];congr;funext x S1;congr;funext y S2;congr;funext z S3;congr;funext d S4;cases d <;> simp [okb] <;> rfl
@[simp] theorem qafn {a b:CE}:Ok (evE Φ f (.and a b) Γ S) P=Ok (evE Φ f a Γ S) fun x S1=>Ok (asB x S1) fun d S2=>if d=true then Ok (evE Φ f b Γ S2) P else P (.bl false) S2:=by
 rw[evE];unfold q7n;rw[okb];simp only [okb];congr;funext x S1;congr;funext d S4;cases d <;> rfl
@[simp] theorem k_or {a b:CE}:Ok (evE Φ f (.or a b) Γ S) P=Ok (evE Φ f a Γ S) fun x S1=>Ok (asB x S1) fun d S2=>if d=true then P (.bl true) S2 else Ok (evE Φ f b Γ S2) P:=by
 rw[evE];unfold orV;rw[okb];simp only [okb];congr;funext x S1;congr;funext d S4;cases d <;> rfl
@[simp] theorem qafo {a:CE}:Ok (evE Φ f (.one a) Γ S) P=Ok (evE Φ f a Γ S) P:=by rw[evE]
@[simp] theorem qafp {a:CE}:Ok (evE Φ f (.not a) Γ S) P=Ok (evE Φ f a Γ S) fun x S1=>Ok (asB x S1) fun d S2=>P (.bl (!d)) S2:=by rw[evE];unfold q7o;rw[okb];simp only [okb];rfl
@[simp] theorem qafq {c:CB} {a b:CE}:Ok (evE Φ f (.ife c a b) Γ S) P=Ok (evB Φ f c Γ S) fun d S1=>if d=true then Ok (evE Φ f a Γ S1) P else Ok (evE Φ f b Γ S1) P:=by rw[evE];unfold ifE;rw[okb];congr;funext d S4;cases d <;> rfl
@[simp] theorem qafr {as:CL}:Ok (evE Φ f (.tup as) Γ S) P=Ok (evA Φ f as Γ S) fun ds S1=>Ok (mkT ds S1) P:=by rw[evE,okb]
@[simp] theorem qafs {nw:Bool} {as:CL}:Ok (evE Φ f (.lst nw as) Γ S) P=Ok (evA Φ f as Γ S) fun ds S1=>Ok (mkL nw ds S1) P:=by rw[evE,okb]
@[simp] theorem qaeu {nw:Bool}:Ok (evE Φ f (.dnil nw) Γ S) P=Ok (alloc nw (.dct [] []) S) P:=by rw[evE]
@[simp] theorem k_ix {a i:CE}:Ok (evE Φ f (.ix a i) Γ S) P=Ok (evE Φ f a Γ S) fun x S1=>Ok (evE Φ f i Γ S1) fun y S2=>Ok (ixM (look x S2) y S2) P:=by rw[evE,okb];simp only [okb]
@[simp] theorem qaev {j:Nat} {as:CL}:Ok (evE Φ f (.call j as) Γ S) P=Ok (evA Φ f as Γ S) fun ds S1=>Ok (qg Φ f j ds S1) P:=by rw[evE,okb]
@[simp] theorem k_bi {b:Bi} {as:CL}:Ok (evE Φ f (.bi b as) Γ S) P=Ok (evA Φ f as Γ S) fun ds S1=>Ok (biF b ds S1) P:=by rw[evE,okb]
@[simp] theorem k_mt {m:Mt} {o:CE} {as:CL}:Ok (evE Φ f (.mt m o as) Γ S) P=Ok (evE Φ f o Γ S) fun x S1=>mtT m (look x S1)=true∧Ok (evA Φ f as Γ S1) fun ds S2=>Ok (mtF m x ds S2) P:=by
 rw[evE];unfold mtD;rw[okb];congr;funext x S1
 cases h:mtT m (look x S1)with
 | true=>simp only [if_true,okb,true_and]
 | false=>simp [M.fail,Ok]
@[simp] theorem k_lc {nw:Bool} {n:Nat} {t:CG} {i:CI} {c:CF} {e:CE}:Ok (evE Φ f (.lc nw n t i c e) Γ S) P=Ok (evI Φ f i Γ S) fun r S1=>r.1.length < sizeLine∧Ok (lcA r.2 n (evG Φ f t) (evF Φ f c) (evE Φ f e) Γ [] r.1 S1) fun ds S2=>Ok (alloc nw (.lst ds) S2) P:=by
 rw[evE];unfold lcD;rw[okb];congr;funext r S1
 by_cases h:r.1.length < sizeLine
 · simp only [h,decide_true,if_true,true_and,okb,noErr]
   cases lcA r.2 n (evG Φ f t) (evF Φ f c) (evE Φ f e) Γ [] r.1 S1 <;> rfl
 · simp [h,M.fail,Ok]
@[simp] theorem k_dc {nw:Bool} {n:Nat} {t:CG} {i:CI} {c:CF} {k e:CE}:Ok (evE Φ f (.dc nw n t i c k e) Γ S) P=Ok (evI Φ f i Γ S) fun r S1=>r.1.length < sizeLine∧Ok (dcA r.2 n (evG Φ f t) (evF Φ f c) (evE Φ f k) (evE Φ f e) Γ [] [] r.1 S1) fun ds S2=>Ok (alloc nw (.dct ds.1 ds.2) S2) P:=by
 rw[evE];unfold dcD;rw[okb];congr;funext r S1
 by_cases h:r.1.length < sizeLine
 · simp only [h,decide_true,if_true,true_and,okb,noErr]
   cases dcA r.2 n (evG Φ f t) (evF Φ f c) (evE Φ f k) (evE Φ f e) Γ [] [] r.1 S1 <;> rfl
 · simp [h,M.fail,Ok]
@[simp] theorem qaft {a:CE}:Ok (evE Φ f (.frz a) Γ S) P=Ok (evE Φ f a Γ S) fun x S1=>Ok (qd8 x S1) P:=by rw[evE,okb]
variable {B:Bool→Sto→Prop}
@[simp] theorem qafu {op:CmpOp} {a b:CE}:Ok (evB Φ f (.cmp op a b) Γ S) B=Ok (evE Φ f a Γ S) fun x S1=>Ok (evE Φ f b Γ S1) fun y S2=>Ok (qa8 op x y S2) fun d S3=>Ok (asB d S3) B:=by rw[evB,okb,okb];simp only [okb]
@[simp] theorem qafv {a b:CB}:Ok (evB Φ f (.and a b) Γ S) B=Ok (evB Φ f a Γ S) fun d S2=>if d=true then Ok (evB Φ f b Γ S2) B else B false S2:=by
 rw[evB];unfold q7k;rw[okb];congr;funext d S4;cases d <;> rfl
@[simp] theorem t_or {a b:CB}:Ok (evB Φ f (.or a b) Γ S) B=Ok (evB Φ f a Γ S) fun d S2=>if d=true then B true S2 else Ok (evB Φ f b Γ S2) B:=by
 rw[evB];unfold orB;rw[okb];congr;funext d S4;cases d <;> rfl
@[simp] theorem qafw {a:CB}:Ok (evB Φ f (.one a) Γ S) B=Ok (evB Φ f a Γ S) B:=by rw[evB]
@[simp] theorem qafx {a:CB}:Ok (evB Φ f (.not a) Γ S) B=Ok (evB Φ f a Γ S) fun d S2=>B (!d) S2:=by rw[evB];unfold q7l;rw[okb];rfl
@[simp] theorem qafy {a:CE}:Ok (evB Φ f (.tru a) Γ S) B=Ok (evE Φ f a Γ S) fun d S2=>Ok (qi1 d S2) B:=by rw[evB,okb]
@[simp] theorem qafz:Ok (evF Φ f .yes Γ S) B=B true S:=by rw[evF];rfl
@[simp] theorem f_if {a:CB}:Ok (evF Φ f (.if_ a) Γ S) B=Ok (evB Φ f a Γ S) B:=by rw[evF]
variable {Q:List D→Sto→Prop} {O:Option Int→Sto→Prop} {I:List D × Src→Sto→Prop} {R:Fl × Env→Sto→Prop} {G:Env→Sto→Prop}
@[simp] theorem qaf0:Ok (evA Φ f .nil Γ S) Q=Q [] S:=by rw[evA];rfl
@[simp] theorem qaew {a:CE} {r:CL}:Ok (evA Φ f (.cons a r) Γ S) Q=Ok (evE Φ f a Γ S) fun x S1=>Ok (evA Φ f r Γ S1) fun xs S2=>Q (x::xs) S2:=by rw[evA];unfold qz7;rw[okb];simp only [okb];rfl
@[simp] theorem qaex {a:CE}:Ok (evI Φ f (.seq a) Γ S) I=Ok (evE Φ f a Γ S) fun x S1=>Ok (qo x S1) I:=by rw[evI,okb]
@[simp] theorem qac2 {a:CE}:Ok (evI Φ f (.keys a) Γ S) I=Ok (evE Φ f a Γ S) fun x S1=>Ok (qem x S1) I:=by rw[evI,okb]
@[simp] theorem qac3 {as:CL}:Ok (evI Φ f (.rng1 as) Γ S) I=Ok (evA Φ f as Γ S) fun x S1=>Ok (qd3 x S1) I:=by rw[evI,okb]
@[simp] theorem qac4 {as:CL}:Ok (evI Φ f (.enum as) Γ S) I=Ok (evA Φ f as Γ S) fun x S1=>Ok (qcl x S1) I:=by rw[evI,okb]
@[simp] theorem qaey {as:CL}:Ok (evI Φ f (.zip as) Γ S) I=Ok (evA Φ f as Γ S) fun x S1=>Ok (qd7 x S1) I:=by rw[evI,okb]
@[simp] theorem g_nm {i:Nat} {d:D}:Ok (evG Φ f (.nm i) d Γ S) G=G (Γ.set i (some d)) S:=by rw[evG];rfl
@[simp] theorem g_tg {ts:CT} {ds:List D}:Ok (evG Φ f (.tg ts) (.tup ds) Γ S) G=(ds.length=qsy ts∧Ok (evT Φ f ts ds Γ S) G):=by
 rw[evG];unfold qu5;dsimp only [look];by_cases h:ds.length=qsy ts <;> simp [h,Ok]
@[simp] theorem qaez {o i:CE} {d:D}:Ok (evG Φ f (.sub o i) d Γ S) G=Ok (evE Φ f o Γ S) fun x S1=>Ok (evE Φ f i Γ S1) fun y S2=>Ok (setM x y d S2) fun _ S3=>G Γ S3:=by rw[evG];unfold q79;rw[okb];simp only [okb];rfl
@[simp] theorem qae0:qsy .nil=0:=(rfl)
@[simp] theorem qae1 {a:CG} {r:CT}:qsy (.cons a r)=qsy r+1:=(rfl)
@[simp] theorem qae2:Ok (evT Φ f .nil [] Γ S) G=G Γ S:=by rw[evT];rfl
@[simp] theorem qac5 {a:CG} {r:CT} {d:D} {ds:List D}:Ok (evT Φ f (.cons a r) (d::ds) Γ S) G=Ok (evG Φ f a d Γ S) fun Γ1 S1=>Ok (evT Φ f r ds Γ1 S1) G:=by rw[evT];unfold qqd;rw[okb]
@[simp] theorem x_ex {a:CE}:Ok (evS Φ f (.ex a) Γ S) R=Ok (evE Φ f a Γ S) fun _ S1=>R (.nx,Γ) S1:=by rw[evS,okb];rfl
@[simp] theorem qaf1 {a:CE}:Ok (evS Φ f (.ret a) Γ S) R=Ok (evE Φ f a Γ S) fun d S1=>R (.rt d,Γ) S1:=by rw[evS,okb];rfl
@[simp] theorem x_if {c:CB} {a b:CSL}:Ok (evS Φ f (.sif c a b) Γ S) R=Ok (evB Φ f c Γ S) fun d S1=>if d=true then Ok (qt Φ f a Γ S1) R else Ok (qt Φ f b Γ S1) R:=by rw[evS];unfold ifS;rw[okb];congr;funext d S4;cases d <;> rfl
@[simp] theorem qaf2 {t:CG} {e:CE}:Ok (evS Φ f (.asg t e) Γ S) R=Ok (evE Φ f e Γ S) fun d S1=>Ok (evG Φ f t d Γ S1) fun Γ1 S2=>R (.nx,Γ1) S2:=by rw[evS,okb];simp only [okb];rfl
@[simp] theorem qaf3 {i:Nat} {e:CE}:Ok (evS Φ f (.set i e) Γ S) R=Ok (evE Φ f e Γ S) fun d S1=>R (.nx,Γ.set i (some d)) S1:=by rw[evS,okb];rfl
@[simp] theorem qac6 {op:Operator} {o i e:CE}:Ok (evS Φ f (.augIx op o i e) Γ S) R=Ok (evE Φ f o Γ S) fun x S1=>Ok (evE Φ f i Γ S1) fun y S2=>Ok (ixW x y S2) fun u S3=>Ok (evE Φ f e Γ S3) fun v S4=>Ok (ipD op u v S4) fun z S5=>Ok (setM x y z S5) fun _ S6=>R (.nx,Γ) S6:=by
 rw[evS];unfold augIx;rw[okb];simp only [okb];rfl
@[simp] theorem qaf4 {t:CG} {i:CI} {b:CSL}:Ok (evS Φ f (.sfor t i b) Γ S) R=Ok (evI Φ f i Γ S) fun r S1=>Ok (forL r.2 (evG Φ f t) (qt Φ f b) r.1 Γ S1) R:=by rw[evS];unfold q3k;rw[okb]
@[simp] theorem qac7 {c:CB} {b:CSL}:Ok (evS Φ f (.swhile c b) Γ S) R=Ok (qdi (evB Φ f c) (qt Φ f b) Γ S) R:=by rw[evS]
@[simp] theorem qaf5:Ok (qt Φ f .nil Γ S) R=R (.nx,Γ) S:=by rw[qt];rfl
noncomputable def Go (Φ:List Fd) (f:List (Str × Nat × Nat)) (r:CSL) (R:Fl × Env→Sto→Prop) (x:Fl × Env) (S:Sto):Prop:=match x.1 with
 | .nx=>Ok (qt Φ f r x.2 S) R
 | _=>R x S
theorem qa {a:CS} {r:CSL}:Ok (qt Φ f (.cons a r) Γ S) R=Ok (evS Φ f a Γ S) (Go Φ f r R):=by
 rw[qt];unfold seqS;rw[okb];congr;funext x S1;obtain ⟨fl,Γ1⟩:=x;cases fl <;> rfl
@[simp] theorem q5b {r:CSL}:Go Φ f r R (.nx,Γ) S=Ok (qt Φ f r Γ S) R:=(rfl)
@[simp] theorem qaf6 {r:CSL} {d:D}:Go Φ f r R (.rt d,Γ) S=R (.rt d,Γ) S:=(rfl)
noncomputable def Ret (P:D→Sto→Prop):Fl × Env→Sto→Prop:=fun r S'=>match r.1 with
 | .rt d=>P d S'
 | .nx=>P .non S'
 | _=>False
@[simp] theorem qae3 {d:D}:Ret P (.rt d,Γ) S=P d S:=(rfl)
@[simp] theorem qae4:Ret P (.nx,Γ) S=P .non S:=(rfl)
end
theorem Ok.run {body:MS} {m:Nat} {ds:List D} {S:Sto} {P:D→Sto→Prop} (h:Ok (body (ds.map some++List.replicate m none) S) (Ret P)):Ok (qa9 body m ds S) P:=by
 unfold qa9
 cases e:body (ds.map some++List.replicate m none) S with
 | ok r S' =>
   rw[e]at h
   obtain ⟨fl,Γ⟩:=r
   cases fl <;> exact h
 | err x S'=>rw[e]at h;exact h
 | no=>rw[e]at h;exact h
@[simp] theorem q9j {n:Nat} {F:Fd} {ds:List D}:qp n F ds=if ds.length=n then F ds else M.fail:=(rfl)
@[simp] theorem qh {S:Sto} {l:Nat} {xs:List D} (h:S[l]? =some (.lst xs)):look (.ref l) S=.lst xs:=by unfold look;dsimp only;rw[h]
@[simp] theorem qhu {S:Sto} {l:Nat} {ks:List Key} {xs:List D} (h:S[l]? =some (.dct ks xs)):look (.ref l) S=.dct ks xs:=by unfold look;dsimp only;rw[h]
@[simp] theorem q9k {S:Sto} {xs:List D}:look (.lst xs) S=.lst xs:=(rfl)
@[simp] theorem q9l {S:Sto} {xs:List D}:look (.tup xs) S=.tup xs:=(rfl)
@[simp] theorem qab1 {S:Sto} {i:Bool}:look (.bl i) S=.bl i:=(rfl)
@[simp] theorem qaf7 {nw:Bool} {i j:Int}:qgn nw .Add (.int i) (.int j)=M.pure (.int (i+j)):=(rfl)
@[simp] theorem qaf8 {nw:Bool} {i j:Int}:qgn nw .Sub (.int i) (.int j)=M.pure (.int (i - j)):=(rfl)
theorem qmf {nw:Bool} {i j:Int} (h:qe3 i j=true):qgn nw .Mult (.int i) (.int j)=M.pure (.int (i * j)):=by
 funext S;show (if qe3 i j=true then M.pure (D.int (i * j))else M.fail) S=_;rw[h];rfl
theorem q0q {nw:Bool} {i j:Int} (h:qgg i j):qgn nw .FloorDiv (.int i) (.int j)=M.pure (.int (i / j)):=by
 funext S;show (if decide (qgg i j)=true then M.pure (D.int (i / j))else M.fail) S=_;rw[decide_eq_true h];rfl
theorem qws {nw:Bool} {i j:Int} (h:0 < j):qgn nw .Mod (.int i) (.int j)=M.pure (.int (i % j)):=by
 funext S;show (if decide (0 < j)=true then M.pure (D.int (i % j))else M.fail) S=_;rw[decide_eq_true h];rfl
theorem q5c {nw:Bool} {i j:Int} (h:qr2 i j):qgn nw .Pow (.int i) (.int j)=M.pure (.int (i ^ j.toNat)):=by
 funext S;show (if decide (qr2 i j)=true then M.pure (D.int (i ^ j.toNat))else M.fail) S=_;rw[decide_eq_true h];rfl
@[simp] theorem c_lt {i j:Int}:qa8 .Lt (.int i) (.int j)=M.pure (.bl (decide (i < j))):=(rfl)
@[simp] theorem c_le {i j:Int}:qa8 .LtE (.int i) (.int j)=M.pure (.bl (decide (i≤j))):=(rfl)
@[simp] theorem c_gt {i j:Int}:qa8 .Gt (.int i) (.int j)=M.pure (.bl (decide (j < i))):=(rfl)
@[simp] theorem c_ge {i j:Int}:qa8 .GtE (.int i) (.int j)=M.pure (.bl (decide (j≤i))):=(rfl)
@[simp] theorem c_eq {i j:Int}:qa8 .Eq (.int i) (.int j)=M.pure (.bl (i==j)):=by
 funext S
 show (if decide (D.dep (.int i)≤60) && qp0 (.int i) (.int j)then M.pure (D.bl (false != eqV (.int i) (.int j)))else M.fail) S=_
 simp [D.dep,qp0,eqV]
@[simp] theorem c_ne {i j:Int}:qa8 .NotEq (.int i) (.int j)=M.pure (.bl (i != j)):=by
 funext S
 show (if decide (D.dep (.int i)≤60) && qp0 (.int i) (.int j)then M.pure (D.bl (true != eqV (.int i) (.int j)))else M.fail) S=_
 simp [D.dep,qp0,eqV,bne]
@[simp] theorem qae5 {b:Bool}:asB (.bl b)=M.pure b:=(rfl)
@[simp] theorem qac8 {ds:List D}:mkT ds=if sizeOk ds.length then M.pure (.tup ds)else M.fail:=(rfl)
theorem qby {n:Nat} (h:n≤1000):sizeOk n=true:=decide_eq_true (Nat.le_of_lt (qbv h))
@[simp] theorem qaf9 {o:Option D} {Γ:Env}:qfg 0 (o::Γ)=match o with | some d=>M.pure d | none=>M.fail:=by
 unfold qfg;cases o <;> rfl
@[simp] theorem qaga {o:Option D} {Γ:Env} {i:Nat}:qfg (i+1) (o::Γ)=qfg i Γ:=by
 unfold qfg;rw[List.getElem?_cons_succ]
@[simp] theorem qmg {xs:List D} {i:Int} {S:Sto}:ixM (.lst xs) (.int i) S=match atI xs i with | some d=>.ok d S | none=>.no:=by unfold ixM;dsimp only;cases atI xs i <;> rfl
@[simp] theorem qzd {xs:List D} {i:Int} {S:Sto}:ixM (.tup xs) (.int i) S=match atI xs i with | some d=>.ok d S | none=>.no:=by unfold ixM;dsimp only;cases atI xs i <;> rfl
@[simp] theorem qac9 {l:Nat} {i:D} {S:Sto}:ixW (.ref l) i S=ixM (look (.ref l) S) i S:=(rfl)
@[simp] theorem atI0 {α:Type} {a:α} {xs:List α}:atI (a::xs) 0=some a:=by unfold atI ixN;simp
@[simp] theorem atI1 {α:Type} {a b:α} {xs:List α}:atI (a::b::xs) 1=some b:=qfy (j:=1) rfl
@[simp] theorem atI2 {α:Type} {a b c:α} {xs:List α}:atI (a::b::c::xs) 2=some c:=qfy (j:=2) rfl
@[simp] theorem atI3 {α:Type} {a b c d:α} {xs:List α}:atI (a::b::c::d::xs) 3=some d:=qfy (j:=3) rfl
theorem qea {S:Sto} {l:Nat} {k:Int} {v:D}:setM (.ref l) (.int k) v S=match S[l]? with
   | some (.lst xs)=>match ixN xs.length k with
     | some j=>.ok () (S.set l (.lst (xs.set j v)))
     | none=>.no
   | some (.dct ks xs)=>if ks.length < sizeLine then .ok () (S.set l (.dct (qbl ks (.inl k)) (qaz ks xs (.inl k) v)))else .no
   | _=>.no:=by
 unfold setM;dsimp only;cases S[l]? with
 | none=>rfl
 | some c=>cases c <;> rfl
theorem qqp {S:Sto} {l:Nat} {xs:List D} {k:Int} {j:Nat} {v:D} (h:S[l]? =some (.lst xs)) (hj:ixN xs.length k=some j):setM (.ref l) (.int k) v S=.ok () (S.set l (.lst (xs.set j v))):=by
 unfold setM;dsimp only;rw[h];dsimp only;rw[hj]
@[simp] theorem ip_a {i j:Int} {S:Sto}:ipD .Add (.int i) (.int j) S=.ok (.int (i+j)) S:=(rfl)
@[simp] theorem ip_s {i j:Int} {S:Sto}:ipD .Sub (.int i) (.int j) S=.ok (.int (i - j)) S:=(rfl)
@[simp] theorem q83 {xs:List D} {S:Sto}:biF .len [.lst xs] S=.ok (.int xs.length) S:=(rfl)
theorem qle {n i:Nat} (h:i < n):ixN n (i:Int)=some i:=by unfold ixN;simp [h]
theorem q0r {α:Type} {xs:List α} {i:Int} (h0:0≤i) (h1:i < xs.length):∃ v,xs[i.toNat]? =some v∧atI xs i=some v:=by
 have hl:i.toNat < xs.length:=by omega
 refine⟨xs[i.toNat],List.getElem?_eq_getElem hl,?_⟩
 unfold atI ixN
 rw[if_pos h0,if_pos h1]
 exact List.getElem?_eq_getElem hl
noncomputable def qen (c:Cell):Prop:=∃ (cells:List Int) (i r z:Int),c=.lst [.lst (cells.map D.int),.int i,.int r,.int z]∧0≤i∧0≤z∧z < 2147483629
noncomputable def qgr:CSL:=(.cons (.sif (.cmp .Gt (.ix (.var 0) (.int 2)) (.int 0)) (.cons (.set 2 (.ix (.var 0) (.int 2))) (.cons (.asg (.sub (.var 0) (.int 2)) (.bin false .FloorDiv (.var 2) (.var 1))) (.cons (.ret (.bin false .Mod (.var 2) (.var 1))) .nil))) .nil) (.cons (.set 3 (.int 0)) (.cons (.sif (.cmp .Lt (.ix (.var 0) (.int 1)) (.bi .len (.cons (.ix (.var 0) (.int 0)) .nil))) (.cons (.set 3 (.ix (.ix (.var 0) (.int 0)) (.ix (.var 0) (.int 1)))) (.cons (.augIx .Add (.var 0) (.int 1) (.int 1)) .nil)) .nil) (.cons (.sif (.cmp .GtE (.var 3) (.bin false .Pow (.int 10) (.int 18))) (.cons (.asg (.sub (.var 0) (.int 2)) (.bin false .FloorDiv (.var 3) (.var 1))) (.cons (.ret (.bin false .Mod (.var 3) (.var 1))) .nil)) .nil) (.cons (.set 4 (.ix (.var 0) (.int 3))) (.cons (.set 4 (.bin false .Add (.bin false .Add (.bin false .Pow (.var 4) (.int 3)) (.bin false .Mult (.int 48271) (.var 4))) (.bin false .Mult (.int 69621) (.bin false .Mod (.var 3) (.int 2147483629))))) (.cons (.asg (.sub (.var 0) (.int 3)) (.bin false .Mod (.bin false .Add (.var 4) (.int 11)) (.int 2147483629))) (.cons (.ret (.bin false .Mod (.bin false .FloorDiv (.ix (.var 0) (.int 3)) (.int 64)) (.var 1))) .nil))))))))
noncomputable def qvb:List (Str × Nat × Nat):=[]
noncomputable def qaa:Fd:=qa9 (qt [] [] qgr) 3
theorem qad {c:Cell} {S:Sto} {m:Int} {P:D→Sto→Prop} (hc:qen c) (h1:1≤m) (h2:m < 2 ^ 200) (k:∀ r c',0≤r→r < m→qen c'→P (.int r) (c'::S)):Ok (qaa [.ref 0,.int m] (c::S)) P:=by
 obtain ⟨cells,i,r,z,rfl,hi,hz,hz'⟩:=hc
 have hd:∀ i:Int,qgg i m:=fun i=>⟨by omega,h2⟩
 refine Ok.run ?_
 unfold qgr
 rw[qa]
 simp
 refine qbz (fun h=> ?_) fun h=> ?_
 · simp [qa,qea,q0q (hd _),qws (show 0 < m by omega),ixN]
   exact k _ _ (Int.emod_nonneg _ (by omega)) (Int.emod_lt_of_pos _ (by omega)) ⟨cells,i,_,z,rfl,hi,hz,hz'⟩
 · rw [qa]
   simp
   rw[qa]
   refine Ok.mono (Q:=fun x S'=>∃ v i',x=(.nx,[some (.ref 0),some (.int m),none,some (.int v),none])∧0≤i'∧S'=.lst [.lst (cells.map D.int),.int i',.int r,.int z]::S) ?_ ?_
   · simp
     refine qbz (fun h=> ?_) fun h=> ?_
     · obtain ⟨v,e1,e2⟩:=q0r (xs:=cells.map D.int) hi (by simpa using h)
       simp at e1
       obtain ⟨v',_,rfl⟩:=e1
       simp [qa,qea,e2,ixN]
       omega
     · simp [hi]
   · rintro _ _ ⟨v,i',rfl,hi',rfl⟩
     rw[q5b,qa]
     simp [q5c (show qr2 10 18 from ⟨by decide,by decide,by decide⟩)]
     refine qbz (fun h=> ?_) fun h=> ?_
     · simp [qa,qea,q0q (hd _),qws (show 0 < m by omega),ixN]
       exact k _ _ (Int.emod_nonneg _ (by omega)) (Int.emod_lt_of_pos _ (by omega)) ⟨cells,i',_,z,rfl,hi',hz,hz'⟩
     · have e1:qr2 z 3:=⟨by decide,by decide,by omega⟩
       have e2:qe3 48271 z=true:=by unfold qe3;rw[Bool.or_eq_true];exact .inl (decide_eq_true (.inl ⟨by decide,by decide⟩))
       have e3:qe3 69621 (v % 2147483629)=true:=by unfold qe3;rw[Bool.or_eq_true];exact .inl (decide_eq_true (.inl ⟨by decide,by decide⟩))
       simp [qa,qea,q5c e1,qmf e2,qmf e3,qws (show 0 < m by omega),qws,q0q (show qgg _ 64 from ⟨by decide,by decide⟩),ixN]
       exact k _ _ (Int.emod_nonneg _ (by omega)) (Int.emod_lt_of_pos _ (by omega)) ⟨cells,i',r,_,rfl,hi',Int.emod_nonneg _ (by decide),Int.emod_lt_of_pos _ (by decide)⟩
noncomputable def Nxt (R:Fl × Env→Sto→Prop) (J:Env→Sto→Prop):Fl × Env→Sto→Prop:=fun r S=>match r.1 with
 | .nx=>J r.2 S
 | .ct=>J r.2 S
 | .bk=>R (.nx,r.2) S
 | .rt d=>R (.rt d,r.2) S
section
variable {R:Fl × Env→Sto→Prop} {J:Env→Sto→Prop} {Γ:Env} {S:Sto}
@[simp] theorem qae6:Nxt R J (.nx,Γ) S=J Γ S:=(rfl)
@[simp] theorem qae7 {d:D}:Nxt R J (.rt d,Γ) S=R (.rt d,Γ) S:=(rfl)
theorem qf4 {α:Type} {src:Src} {k:M α} {P:α→Sto→Prop} (h:qag src S):Ok (M.bind (guard src) (fun _=>k) S) P=Ok (k S) P:=by
 unfold M.bind;rw[qso h]
theorem qjc {src:Src} {hd:D→Env→M Env} {body:MS} {ds:List D} (Iv:Nat→Env→Sto→Prop) (hs:∀ i Γ S,Iv i Γ S→qag src S)
   (step:∀ (i:Nat) d Γ S,ds[i]? =some d→Iv i Γ S→Ok (hd d Γ S) fun Γ1 S1=>Ok (body Γ1 S1) (Nxt R (Iv (i+1)))) (fin:∀ Γ S,Iv ds.length Γ S→R (.nx,Γ) S) :
   ∀ (k i:Nat) Γ S,i+k=ds.length→Iv i Γ S→Ok (forL src hd body (ds.drop i) Γ S) R
 | 0,i,Γ,S,e,h=>by
   have:i=ds.length:=by omega
   subst this
   rw[List.drop_length,forL,qf4 (hs _ _ _ h)]
   exact fin Γ S h
 | k+1,i,Γ,S,e,h=>by
   have hi:i < ds.length:=by omega
   rw[List.drop_eq_getElem_cons hi,forL,qf4 (hs _ _ _ h),qap]
   refine(step i _ Γ S (List.getElem?_eq_getElem hi) h).mono fun Γ1 S1 q=> ?_
   rw[qap]
   refine q.mono fun r S2 q=> ?_
   obtain ⟨fl,Γ2⟩:=r
   cases fl with
   | nx=>exact qjc Iv hs step fin k (i+1) Γ2 S2 (by omega) q
   | ct=>exact qjc Iv hs step fin k (i+1) Γ2 S2 (by omega) q
   | bk=>exact q
   | rt d=>exact q
theorem qaq {src:Src} {hd:D→Env→M Env} {body:MS} {ds:List D} (Iv:Nat→Env→Sto→Prop) (h0:Iv 0 Γ S) (hs:∀ i Γ S,Iv i Γ S→qag src S)
   (step:∀ (i:Nat) d Γ S,ds[i]? =some d→Iv i Γ S→Ok (hd d Γ S) fun Γ1 S1=>Ok (body Γ1 S1) (Nxt R (Iv (i+1)))) (fin:∀ Γ S,Iv ds.length Γ S→R (.nx,Γ) S):Ok (forL src hd body ds Γ S) R:=by
 have:=qjc (R:=R) (hd:=hd) (body:=body) Iv hs step fin ds.length 0 Γ S (by omega) h0
 simpa using this
theorem qmh {src:Src} {n:Nat} {hd:D→Env→M Env} {cond:Env→M Bool} {elt:Env→M D} {ds:List D} {Q:List D→Sto→Prop} (Iv:Nat→List D→Sto→Prop) (hs:∀ i a S,Iv i a S→qag src S)
   (step:∀ (i:Nat) d a S,ds[i]? =some d→Iv i a S→Ok (hd d (List.replicate n none++Γ) S) fun Γ1 S1=>Ok (cond Γ1 S1) fun b S2=>if b=true then Ok (elt Γ1 S2) fun y S3=>Iv (i+1) (a++[y]) S3 else Iv (i+1) a S2) (fin:∀ a S,Iv ds.length a S→Q a S) :
   ∀ (k i:Nat) a S,i+k=ds.length→Iv i a S→Ok (lcA src n hd cond elt Γ a (ds.drop i) S) Q
 | 0,i,a,S,e,h=>by
   have:i=ds.length:=by omega
   subst this
   rw[List.drop_length,lcA,qf4 (hs _ _ _ h)]
   exact fin a S h
 | k +1,i,a,S,e,h=>by
   have hi:i < ds.length:=by omega
   rw[List.drop_eq_getElem_cons hi,lcA,qf4 (hs _ _ _ h),qap]
   refine(step i _ a S (List.getElem?_eq_getElem hi) h).mono fun Γ1 S1 q=> ?_
   rw[qap]
   refine q.mono fun b S2 q=> ?_
   cases b with
   | true =>
     rw[if_pos rfl]at q
     rw[if_pos rfl,qap]
     exact q.mono fun y S3 q=>qmh Iv hs step fin k (i+1) _ S3 (by omega) q
   | false =>
     rw[if_neg Bool.false_ne_true]at q
     rw[if_neg Bool.false_ne_true]
     exact qmh Iv hs step fin k (i+1) _ S2 (by omega) q
theorem qqq {src:Src} {n:Nat} {hd:D→Env→M Env} {cond:Env→M Bool} {elt:Env→M D} {ds:List D} {Q:List D→Sto→Prop} (Iv:Nat→List D→Sto→Prop) (h0:Iv 0 [] S) (hs:∀ i a S,Iv i a S→qag src S)
   (step:∀ (i:Nat) d a S,ds[i]? =some d→Iv i a S→Ok (hd d (List.replicate n none++Γ) S) fun Γ1 S1=>Ok (cond Γ1 S1) fun b S2=>if b=true then Ok (elt Γ1 S2) fun y S3=>Iv (i+1) (a++[y]) S3 else Iv (i+1) a S2) (fin:∀ a S,Iv ds.length a S→Q a S):Ok (lcA src n hd cond elt Γ [] ds S) Q:=by
 have:=qmh (Q:=Q) (hd:=hd) (cond:=cond) (elt:=elt) (n:=n) (Γ:=Γ) Iv hs step fin ds.length 0 [] S (by omega) h0
 simpa using this
theorem qmi {src:Src} {n:Nat} {hd:D→Env→M Env} {cond:Env→M Bool} {fk fv:Env→M D} {ds:List D} {Q:List Key × List D→Sto→Prop} (Iv:Nat→List Key→List D→Sto→Prop) (hs:∀ i a b S,Iv i a b S→qag src S)
   (step:∀ (i:Nat) d ks xs S,ds[i]? =some d→Iv i ks xs S→Ok (hd d (List.replicate n none++Γ) S) fun Γ1 S1=>Ok (cond Γ1 S1) fun b S2=>if b=true then Ok (fk Γ1 S2) fun k S3=>Ok (fv Γ1 S3) fun y S4=>∃ j,keyOf k=some j∧Iv (i+1) (qbl ks j) (qaz ks xs j y) S4 else Iv (i+1) ks xs S2) (fin:∀ ks xs S,Iv ds.length ks xs S→Q (ks,xs) S) :
   ∀ (k i:Nat) ks xs S,i+k=ds.length→Iv i ks xs S→Ok (dcA src n hd cond fk fv Γ ks xs (ds.drop i) S) Q
 | 0,i,ks,xs,S,e,h=>by
   have:i=ds.length:=by omega
   subst this
   rw[List.drop_length,dcA,qf4 (hs _ _ _ _ h)]
   exact fin ks xs S h
 | k +1,i,ks,xs,S,e,h=>by
   have hi:i < ds.length:=by omega
   rw[List.drop_eq_getElem_cons hi,dcA,qf4 (hs _ _ _ _ h),qap]
   refine(step i _ ks xs S (List.getElem?_eq_getElem hi) h).mono fun Γ1 S1 q=> ?_
   rw[qap]
   refine q.mono fun b S2 q=> ?_
   cases b with
   | true =>
     rw[if_pos rfl]at q
     rw[if_pos rfl,qap]
     refine q.mono fun kk S3 q=> ?_
     rw[qap]
     refine q.mono fun y S4 q=> ?_
     obtain ⟨j,ej,q⟩:=q
     rw[ej]
     exact qmi Iv hs step fin k (i+1) _ _ S4 (by omega) q
   | false =>
     rw[if_neg Bool.false_ne_true]at q
     rw[if_neg Bool.false_ne_true]
     exact qmi Iv hs step fin k (i+1) _ _ S2 (by omega) q
theorem q84 {src:Src} {n:Nat} {hd:D→Env→M Env} {cond:Env→M Bool} {fk fv:Env→M D} {ds:List D} {Q:List Key × List D→Sto→Prop} (Iv:Nat→List Key→List D→Sto→Prop) (h0:Iv 0 [] [] S) (hs:∀ i a b S,Iv i a b S→qag src S)
   (step:∀ (i:Nat) d ks xs S,ds[i]? =some d→Iv i ks xs S→Ok (hd d (List.replicate n none++Γ) S) fun Γ1 S1=>Ok (cond Γ1 S1) fun b S2=>if b=true then Ok (fk Γ1 S2) fun k S3=>Ok (fv Γ1 S3) fun y S4=>∃ j,keyOf k=some j∧Iv (i+1) (qbl ks j) (qaz ks xs j y) S4 else Iv (i+1) ks xs S2) (fin:∀ ks xs S,Iv ds.length ks xs S→Q (ks,xs) S):Ok (dcA src n hd cond fk fv Γ [] [] ds S) Q:=by
 have:=qmi (Q:=Q) (hd:=hd) (cond:=cond) (fk:=fk) (fv:=fv) (n:=n) (Γ:=Γ) Iv hs step fin ds.length 0 [] [] S (by omega) h0
 simpa using this
theorem qhv {c:Env→M Bool} {body:MS} {n:Nat} {Γ:Env}:qk c body (n+1) Γ=M.bind (c Γ) fun b=>if b=true then M.bind (body Γ) fun r=>match r.1 with
   | .nx=>qk c body n r.2
   | .ct=>qk c body n r.2
   | .bk=>M.pure (.nx,r.2)
   | .rt d=>M.pure (.rt d,r.2)else M.pure (.nx,Γ):=rfl
theorem qjd {c:Env→M Bool} {body:MS}:∀ (n:Nat) Γ S,qk c body n Γ S ≠ .no→qk c body (n+1) Γ S=qk c body n Γ S
 | 0,Γ,S,h=>absurd rfl h
 | n + 1,Γ,S,h=>by
   rw[qhv (n:=n+1),qhv (n:=n)]
   rw[qhv (n:=n)]at h
   unfold M.bind at h ⊢
   cases e:c Γ S with
   | no=>rfl
   | err x S1=>rfl
   | ok b S1 =>
     rw[e]at h
     dsimp only at h ⊢
     cases b with
     | false=>rfl
     | true =>
       rw[if_pos rfl]at h ⊢
       rw[if_pos rfl]
       cases e2:body Γ S1 with
       | no=>rfl
       | err x S2=>rfl
       | ok r S2 =>
         rw[e2]at h
         obtain ⟨fl,Γ2⟩:=r
         cases fl with
         | nx=>exact qjd n Γ2 S2 h
         | ct=>exact qjd n Γ2 S2 h
         | bk=>rfl
         | rt d=>rfl
theorem qje {c:Env→M Bool} {body:MS} {n:Nat} (h:qk c body n Γ S ≠ .no):∀ k,qk c body (n+k) Γ S=qk c body n Γ S
 | 0=>rfl
 | k+1=>by
   have:=qje h k
   rw[← Nat.add_assoc,qjd (n+k) Γ S (by rw[this];exact h),this]
theorem qym {c:Env→M Bool} {body:MS} {n:Nat} (h:Ok (qk c body n Γ S) R):Ok (qdi c body Γ S) R:=by
 have hn:qk c body n Γ S ≠ .no:=fun e=>by rw[e]at h;exact h
 have he:∃ n,qk c body n Γ S ≠ .no:=⟨n,hn⟩
 unfold qdi
 rw[dif_pos he]
 have hm:=he.choose_spec
 generalize he.choose=m at *
 rcases Nat.le_total n m with z | z
 · obtain ⟨k,rfl⟩:=Nat.le.dest z
   rw[qje hn k];exact h
 · obtain ⟨k,rfl⟩:=Nat.le.dest z
   rw[← qje hm k];exact h
end
noncomputable abbrev qmj:CSL:=.cons (.ex (.mt .append (.var 3) (.cons (.var 5) .nil))) .nil
noncomputable abbrev qmk:CSL:=.cons (.asg (.sub (.var 1) (.var 5)) (.var 4)) qmj
noncomputable abbrev qml:CSL:=.cons (.sif (.and (.tru (.var 6)) (.one (.cmp .NotIn (.var 5) (.var 1)))) qmk .nil) .nil
noncomputable abbrev qmm:CSL:=.cons (.sfor (.tg (.cons (.nm 5) (.cons (.nm 6) .nil))) (.enum (.cons (.ix (.var 2) (.var 4)) .nil)) qml) .nil
noncomputable abbrev qmn:CSL:=.cons (.ret (.frz (.var 3))) .nil
noncomputable abbrev qmo:CSL:=.cons (.sfor (.nm 4) (.seq (.var 0)) qmm) qmn
noncomputable abbrev qeo:CSL:=.cons (.set 3 (.lst true .nil)) qmo
noncomputable def qhw:List (Str × Nat × Nat):=[]
noncomputable def qhx:List Fd:=[]
noncomputable def qb3:Fd:=qa9 (qt qhx qhw qeo) 4
noncomputable abbrev qmp:CSL:=.cons (.ex (.mt .append (.var 3) (.cons (.var 5) .nil))) .nil
noncomputable abbrev qmq:CSL:=.cons (.asg (.sub (.var 1) (.var 5)) (.var 4)) qmp
noncomputable abbrev qmr:CSL:=.cons (.sif (.and (.cmp .Gt (.ix (.var 6) (.var 4)) (.int 0)) (.one (.cmp .NotIn (.var 5) (.var 1)))) qmq .nil) .nil
noncomputable abbrev qms:CSL:=.cons (.sfor (.tg (.cons (.nm 5) (.cons (.nm 6) .nil))) (.enum (.cons (.var 2) .nil)) qmr) .nil
noncomputable abbrev qmt:CSL:=.cons (.ret (.frz (.var 3))) .nil
noncomputable abbrev qmu:CSL:=.cons (.sfor (.nm 4) (.seq (.var 0)) qms) qmt
noncomputable abbrev qep:CSL:=.cons (.set 3 (.lst true .nil)) qmu
noncomputable def qhy:List (Str × Nat × Nat):=[]
noncomputable def qhz:List Fd:=[]
noncomputable def qb4:Fd:=qa9 (qt qhz qhy qep) 4
noncomputable abbrev qs1:CSL:=.cons (.set 5 (.call 1 (.cons (.var 6) (.cons (.var 3) (.cons (.var 0) .nil))))) .nil
noncomputable abbrev qs2:CSL:=.cons (.set 6 (.call 0 (.cons (.var 5) (.cons (.var 4) (.cons (.var 2) .nil))))) qs1
noncomputable abbrev qs3:CSL:=.cons (.ret (.tup (.cons (.frz (.var 3)) (.cons (.frz (.var 4)) .nil)))) .nil
noncomputable abbrev qs4:CSL:=.cons (.swhile (.tru (.var 5)) qs2) qs3
noncomputable abbrev qs5:CSL:=.cons (.set 5 (.bi (.keys false) (.cons (.var 3) .nil))) qs4
noncomputable abbrev qs6:CSL:=.cons (.set 4 (.dnil true)) qs5
noncomputable abbrev qjf:CSL:=.cons (.set 3 (.dc true 2 (.tg (.cons (.nm 0) (.cons (.nm 1) .nil))) (.enum (.cons (.var 1) .nil)) (.if_ (.cmp .Gt (.var 1) (.int 0))) (.var 0) .non)) qs6
noncomputable def qf5:List (Str × Nat × Nat):=[("new_takers",3,1),("new_givers",3,1)]
noncomputable def qf6:List Fd:=[qb3,qb4]
@[simp] theorem q32:qg qf6 qf5 0=qp 3 qb3:=(rfl)
@[simp] theorem q33:qg qf6 qf5 1=qp 3 qb4:=(rfl)
noncomputable def qeb:Fd:=qa9 (qt qf6 qf5 qjf) 4
noncomputable abbrev qgd:CSL:=.cons (.sif (.cmp .Gt (.ix (.var 1) (.var 2)) (.int 0)) (.cons (.ret (.var 2)) .nil) .nil) .nil
noncomputable abbrev qge:CSL:=.cons (.ret .non) .nil
noncomputable abbrev qb5:CSL:=.cons (.sfor (.nm 2) (.keys (.var 0)) qgd) qge
noncomputable def qdw:List (Str × Nat × Nat):=[]
noncomputable def qdx:List Fd:=[]
noncomputable def qar:Fd:=qa9 (qt qdx qdw qb5) 1
noncomputable abbrev qs7:CSL:=.cons (.set 4 (.ix (.var 1) (.var 5))) .nil
noncomputable abbrev qs8:CSL:=.cons (.ex (.mt .append (.var 3) (.cons (.tup (.cons (.var 5) (.cons (.var 4) (.cons (.ix (.var 1) (.var 5)) .nil)))) .nil))) qs7
noncomputable abbrev qs9:CSL:=.cons (.set 5 (.ix (.var 2) (.var 4))) qs8
noncomputable abbrev qta:CSL:=.cons (.ret (.frz (.var 3))) .nil
noncomputable abbrev qtb:CSL:=.cons (.swhile (.cmp .IsNot (.var 4) .non) qs9) qta
noncomputable abbrev qtc:CSL:=.cons (.set 4 (.var 0)) qtb
noncomputable abbrev qjg:CSL:=.cons (.set 3 (.lst true .nil)) qtc
noncomputable def qpi:List (Str × Nat × Nat):=[]
noncomputable def qpj:List Fd:=[]
noncomputable def qec:Fd:=qa9 (qt qpj qpi qjg) 3
noncomputable abbrev qmv:CSL:=.cons (.sif (.cmp .IsNot (.var 10) .non) (.cons (.augIx .Sub (.ix (.var 1) (.var 8)) (.var 10) (.var 7)) .nil) .nil) .nil
noncomputable abbrev qmw:CSL:=.cons (.augIx .Add (.ix (.var 1) (.var 8)) (.var 9) (.var 7)) qmv
noncomputable abbrev qmx:CSL:=.cons (.augIx .Sub (.var 3) (.var 4) (.var 7)) .nil
noncomputable abbrev qmy:CSL:=.cons (.augIx .Sub (.var 2) (.var 5) (.var 7)) qmx
noncomputable abbrev qmz:CSL:=.cons (.sfor (.tg (.cons (.nm 8) (.cons (.nm 9) (.cons (.nm 10) .nil)))) (.seq (.var 0)) qmw) qmy
noncomputable abbrev qm0:CSL:=.cons (.set 7 (.bi .min (.cons (.bin false .Add (.lst false (.cons (.ix (.var 3) (.var 4)) (.cons (.ix (.var 2) (.var 5)) .nil))) (.var 6)) .nil))) qmz
noncomputable abbrev qm1:CSL:=.cons (.set 6 (.lc false 3 (.tg (.cons (.nm 0) (.cons (.nm 1) (.cons (.nm 2) .nil)))) (.seq (.var 0)) (.if_ (.cmp .IsNot (.var 2) .non)) (.ix (.ix (.var 4) (.var 0)) (.var 2)))) qm0
noncomputable abbrev qm2:CSL:=.cons (.set 5 (.ix (.ix (.var 0) (.neg (.int 1))) (.int 0))) qm1
noncomputable abbrev qeq:CSL:=.cons (.set 4 (.ix (.ix (.var 0) (.int 0)) (.int 1))) qm2
noncomputable def qh0:List (Str × Nat × Nat):=[]
noncomputable def qh1:List Fd:=[]
noncomputable def qb6:Fd:=qa9 (qt qh1 qh0 qeq) 7
noncomputable abbrev qtd:CSL:=.cons (.ret (.tup (.cons (.frz (.var 2)) (.cons (.var 5) (.cons (.var 6) .nil))))) .nil
noncomputable abbrev qte:CSL:=.cons (.ex (.call 3 (.cons (.call 2 (.cons (.var 7) (.cons (.var 5) (.cons (.var 6) .nil)))) (.cons (.var 2) (.cons (.var 3) (.cons (.var 4) .nil)))))) .nil
noncomputable abbrev qtf:CSL:=.cons (.sif (.cmp .Is (.var 7) .non) qtd .nil) qte
noncomputable abbrev qtg:CSL:=.cons (.set 7 (.call 1 (.cons (.var 6) (.cons (.var 4) .nil)))) qtf
noncomputable abbrev qth:CSL:=.cons (.asg (.tg (.cons (.nm 5) (.cons (.nm 6) .nil))) (.call 0 (.cons (.var 2) (.cons (.var 3) (.cons (.var 1) .nil))))) qtg
noncomputable abbrev qti:CSL:=.cons (.swhile (.tru (.bl true)) qth) .nil
noncomputable abbrev qtj:CSL:=.cons (.set 4 (.bi (.list true) (.cons (.var 0) .nil))) qti
noncomputable abbrev qtk:CSL:=.cons (.set 3 (.bi (.list true) (.cons (.var 0) .nil))) qtj
noncomputable abbrev qjh:CSL:=.cons (.set 2 (.lc true 1 (.nm 0) (.seq (.var 0)) .yes (.bin true .Mult (.lst false (.cons (.int 0) .nil)) (.bi .len (.cons (.var 1) .nil))))) qtk
noncomputable def qc6:List (Str × Nat × Nat):=[("reached",3,2),("first_with_room",2,1),("path_to",3,1),("give_along",4,1)]
noncomputable def qc7:List Fd:=[qeb,qar,qec,qb6]
@[simp] theorem q34:qg qc7 qc6 0=qp 3 qeb:=(rfl)
@[simp] theorem q35:qg qc7 qc6 1=qp 2 qar:=(rfl)
@[simp] theorem q36:qg qc7 qc6 2=qp 3 qec:=(rfl)
@[simp] theorem q37:qg qc7 qc6 3=qp 4 qb6:=(rfl)
noncomputable def qcn:Fd:=qa9 (qt qc7 qc6 qjh) 6
noncomputable abbrev qnz:CSL:=.cons (.ret (.lc false 1 (.nm 0) (.rng1 (.cons (.var 1) .nil)) .yes (.lc false 1 (.nm 0) (.rng1 (.cons (.var 2) .nil)) .yes (.cmp .NotEq (.var 1) (.var 0))))) .nil
noncomputable abbrev qn0:CSL:=.cons (.asg (.sub (.ix (.var 2) (.var 4)) (.var 3)) (.bl true)) .nil
noncomputable abbrev qn1:CSL:=.cons (.asg (.sub (.ix (.var 2) (.var 3)) (.var 4)) (.bl true)) qn0
noncomputable abbrev qn2:CSL:=.cons (.ret (.frz (.var 2))) .nil
noncomputable abbrev qn3:CSL:=.cons (.sfor (.tg (.cons (.nm 3) (.cons (.nm 4) .nil))) (.seq (.var 0)) qn1) qn2
noncomputable abbrev qn4:CSL:=.cons (.set 2 (.lc true 1 (.nm 0) (.rng1 (.cons (.var 1) .nil)) .yes (.bin true .Mult (.lst false (.cons (.bl false) .nil)) (.var 2)))) qn3
noncomputable abbrev qfm:CSL:=.cons (.sif (.cmp .Is (.var 0) .non) qnz .nil) qn4
noncomputable def qkp:List (Str × Nat × Nat):=[]
noncomputable def qkq:List Fd:=[]
noncomputable def qba:Fd:=qa9 (qt qkq qkp qfm) 3
noncomputable abbrev qqr:CSL:=.cons (.ret (.lc true 2 (.tg (.cons (.nm 0) (.cons (.nm 1) .nil))) (.enum (.cons (.var 2) .nil)) .yes (.lc true 2 (.tg (.cons (.nm 0) (.cons (.nm 1) .nil))) (.enum (.cons (.var 1) .nil)) .yes (.bin false .Add (.var 1) (.ix (.ix (.var 6) (.var 0)) (.var 2)))))) .nil
noncomputable abbrev qgs:CSL:=.cons (.asg (.tg (.cons (.nm 2) (.cons (.nm 3) (.cons (.nm 4) .nil)))) (.call 0 (.cons (.var 0) (.cons (.call 1 (.cons (.var 1) (.cons (.bi .len (.cons (.var 0) .nil)) .nil))) .nil)))) qqr
noncomputable def qer:List (Str × Nat × Nat):=[("fullest",2,3),("tie_table",2,1)]
noncomputable def qes:List Fd:=[qcn,qba]
@[simp] theorem q10:qg qes qer 0=qp 2 qcn:=(rfl)
@[simp] theorem q11:qg qes qer 1=qp 2 qba:=(rfl)
noncomputable def qco:Fd:=qa9 (qt qes qer qgs) 3
noncomputable abbrev qvc:CSL:=.cons (.ret (.bin false .Add (.var 3) (.var 4))) .nil
noncomputable abbrev qvd:CSL:=.cons (.set 4 (.ife (.cmp .In (.var 0) (.var 2)) (.int 1) (.int 0))) qvc
noncomputable abbrev qm3:CSL:=.cons (.set 3 (.ife (.cmp .In (.var 0) (.var 1)) (.int 0) (.int 1))) qvd
noncomputable def qtl:List (Str × Nat × Nat):=[]
noncomputable def qtm:List Fd:=[]
noncomputable def qh2:Fd:=qa9 (qt qtm qtl qm3) 2
noncomputable abbrev qm4:CSL:=.cons (.ret (.lc true 1 (.nm 0) (.rng1 (.cons (.bi .len (.cons (.var 0) .nil)) .nil)) .yes (.call 2 (.cons (.var 0) (.cons (.var 4) (.cons (.var 5) .nil)))))) .nil
noncomputable abbrev qet:CSL:=.cons (.asg (.tg (.cons (.nm 2) (.cons (.nm 3) (.cons (.nm 4) .nil)))) (.call 0 (.cons (.var 0) (.cons (.call 1 (.cons (.var 1) (.cons (.bi .len (.cons (.var 0) .nil)) .nil))) .nil)))) qm4
noncomputable def qb7:List (Str × Nat × Nat):=[("fullest",2,3),("tie_table",2,1),("halves",3,1)]
noncomputable def qb8:List Fd:=[qcn,qba,qh2]
@[simp] theorem qyu:qg qb8 qb7 0=qp 2 qcn:=(rfl)
@[simp] theorem qyv:qg qb8 qb7 1=qp 2 qba:=(rfl)
@[simp] theorem qyw:qg qb8 qb7 2=qp 3 qh2:=(rfl)
noncomputable def qbe:Fd:=qa9 (qt qb8 qb7 qet) 3
noncomputable abbrev qn5:CSL:=.cons (.ret (.call 0 (.cons (.var 0) (.cons (.int 1000000) .nil)))) .nil
noncomputable abbrev qn6:CSL:=.cons (.set 2 (.bin false .Add (.bin false .Mult (.var 2) (.int 1000000)) (.call 0 (.cons (.var 0) (.cons (.int 1000000) .nil))))) .nil
noncomputable abbrev qn7:CSL:=.cons (.ret (.var 2)) .nil
noncomputable abbrev qn8:CSL:=.cons (.sfor (.nm 3) (.rng1 (.cons (.int 3) .nil)) qn6) qn7
noncomputable abbrev qn9:CSL:=.cons (.set 2 (.int 0)) qn8
noncomputable abbrev qoa:CSL:=.cons (.sif (.cmp .Eq (.var 1) (.int 1)) qn5 .nil) qn9
noncomputable abbrev qob:CSL:=.cons (.sif (.cmp .Eq (.var 1) (.int 0)) (.cons (.ret (.call 0 (.cons (.var 0) (.cons (.int 10) .nil)))) .nil) .nil) qoa
noncomputable abbrev qfn:CSL:=.cons (.set 1 (.call 0 (.cons (.var 0) (.cons (.int 4) .nil)))) qob
noncomputable def qfo:List (Str × Nat × Nat):=[("_law_take",2,1)]
noncomputable def qkr:List Fd:=[qaa]
@[simp] theorem q0s:qg qkr qfo 0=qp 2 qaa:=(rfl)
noncomputable def qdy:Fd:=qa9 (qt qkr qfo qfn) 3
noncomputable abbrev qqs:CSL:=.cons (.ret (.and (.cmp .Eq (.bi .len (.cons (.var 0) .nil)) (.bi .len (.cons (.var 1) .nil))) (.one (.bi .all (.cons (.lc false 2 (.tg (.cons (.nm 0) (.cons (.nm 1) .nil))) (.zip (.cons (.var 0) (.cons (.var 1) .nil))) .yes (.call 0 (.cons (.var 0) (.cons (.var 1) .nil)))) .nil))))) .nil
noncomputable abbrev qqt:CSL:=.cons (.sif (.or (.cmp .NotEq (.bi .isi (.cons (.var 0) (.cons (.ty "list") .nil))) (.bi .isi (.cons (.var 1) (.cons (.ty "list") .nil)))) (.one (.cmp .NotEq (.bi .isi (.cons (.var 0) (.cons (.ty "tuple") .nil))) (.bi .isi (.cons (.var 1) (.cons (.ty "tuple") .nil)))))) (.cons (.ret (.bl false)) .nil) .nil) qqs
noncomputable abbrev qqu:CSL:=.cons (.ret (.and (.cmp .Is (.var 0) .non) (.one (.cmp .Is (.var 1) .non)))) .nil
noncomputable abbrev qqv:CSL:=.cons (.ret (.and (.cmp .Eq (.bi .isi (.cons (.var 0) (.cons (.ty "str") .nil))) (.bi .isi (.cons (.var 1) (.cons (.ty "str") .nil)))) (.one (.cmp .Eq (.var 0) (.var 1))))) .nil
noncomputable abbrev qqw:CSL:=.cons (.sif (.or (.cmp .NotEq (.bi .isi (.cons (.var 0) (.cons (.ty "bool") .nil))) (.bi .isi (.cons (.var 1) (.cons (.ty "bool") .nil)))) (.one (.cmp .NotEq (.bi .isi (.cons (.var 0) (.cons (.ty "int") .nil))) (.bi .isi (.cons (.var 1) (.cons (.ty "int") .nil)))))) (.cons (.ret (.bl false)) .nil) .nil) qqv
noncomputable abbrev qqx:CSL:=.cons (.sif (.or (.cmp .Is (.var 0) .non) (.one (.cmp .Is (.var 1) .non))) qqu .nil) qqw
noncomputable abbrev qdj:CSL:=.cons (.sif (.or (.tru (.bi .isi (.cons (.var 1) (.cons (.ty "list") .nil)))) (.one (.tru (.bi .isi (.cons (.var 1) (.cons (.ty "tuple") .nil)))))) qqt .nil) qqx
noncomputable def qgt (d:Nat):List (Str × Nat × Nat):=[("_law_same",2,d+1)]
noncomputable def qq:Nat→Fd
 | 0=>fun _=>M.fail
 | d+1=>qa9 (qt [qq d] (qgt d) qdj) 0
noncomputable abbrev qgu:CSL:=.cons (.sif (.not (.tru (.bi .all (.cons (.lc false 1 (.nm 0) (.seq (.var 2)) .yes (.and (.bi .isi (.cons (.var 0) (.cons (.ty "int") .nil))) (.one (.not (.bi .isi (.cons (.var 0) (.cons (.ty "bool") .nil))))))) .nil)))) (.cons (.ret (.bl false)) .nil) .nil) .nil
noncomputable abbrev qgv:CSL:=.cons (.sif (.or (.not (.tru (.bi .isi (.cons (.var 2) (.cons (.ty "list") .nil))))) (.one (.cmp .NotEq (.bi .len (.cons (.var 2) .nil)) (.var 1)))) (.cons (.ret (.bl false)) .nil) .nil) qgu
noncomputable abbrev qgw:CSL:=.cons (.ret (.bl true)) .nil
noncomputable abbrev qgx:CSL:=.cons (.sfor (.nm 2) (.seq (.var 0)) qgv) qgw
noncomputable abbrev qcp:CSL:=.cons (.sif (.or (.not (.tru (.bi .isi (.cons (.var 0) (.cons (.ty "list") .nil))))) (.one (.cmp .NotEq (.bi .len (.cons (.var 0) .nil)) (.var 1)))) (.cons (.ret (.bl false)) .nil) .nil) qgx
noncomputable def qed:List (Str × Nat × Nat):=[]
noncomputable def qji:List Fd:=[]
noncomputable def qbf:Fd:=qa9 (qt qji qed qcp) 1
noncomputable abbrev qgy:CSL:=.cons (.ret (.bi .all (.cons (.lc false 1 (.nm 0) (.seq (.var 0)) .yes (.and (.bi .isi (.cons (.var 0) (.cons (.ty "int") .nil))) (.one (.not (.bi .isi (.cons (.var 0) (.cons (.ty "bool") .nil))))))) .nil))) .nil
noncomputable abbrev qcq:CSL:=.cons (.sif (.or (.not (.tru (.bi .isi (.cons (.var 0) (.cons (.ty "list") .nil))))) (.one (.cmp .NotEq (.bi .len (.cons (.var 0) .nil)) (.var 1)))) (.cons (.ret (.bl false)) .nil) .nil) qgy
noncomputable def qee:List (Str × Nat × Nat):=[]
noncomputable def qjj:List Fd:=[]
noncomputable def qbg:Fd:=qa9 (qt qjj qee qcq) 0
noncomputable abbrev qeu:CSL:=.cons (.ret (.lc false 1 (.nm 0) (.seq (.var 0)) .yes (.bi (.list false) (.cons (.var 0) .nil)))) .nil
noncomputable def qh3:List (Str × Nat × Nat):=[]
noncomputable def qqy:List Fd:=[]
noncomputable def qb9:Fd:=qa9 (qt qqy qh3 qeu) 0
noncomputable abbrev qgz:CSL:=.cons (.ex (.mt .append (.var 3) (.cons (.call 0 (.cons (.var 0) (.cons (.int 7) .nil))) .nil))) .nil
noncomputable abbrev qg0:CSL:=.cons (.ex (.mt .append (.var 3) (.cons (.call 1 (.cons (.var 0) .nil)) .nil))) .nil
noncomputable abbrev qg1:CSL:=.cons (.ex (.mt .append (.var 3) (.cons (.bin false .Mult (.call 0 (.cons (.var 0) (.cons (.int 3) .nil))) (.call 0 (.cons (.var 0) (.cons (.int 60) .nil)))) .nil))) .nil
noncomputable abbrev qg2:CSL:=.cons (.sif (.cmp .Eq (.var 2) (.int 1)) qg0 qg1) .nil
noncomputable abbrev qg3:CSL:=.cons (.sif (.cmp .Eq (.var 2) (.int 0)) qgz qg2) .nil
noncomputable abbrev qg4:CSL:=.cons (.asg (.sub (.var 3) (.var 5)) (.bi .max (.cons (.int 0) (.cons (.bin false .Sub (.bin false .Add (.bin false .Sub (.bi .sum (.cons (.var 3) .nil)) (.ix (.var 3) (.var 5))) (.call 0 (.cons (.var 0) (.cons (.int 3) .nil)))) (.int 1)) .nil)))) .nil
noncomputable abbrev qg5:CSL:=.cons (.set 5 (.call 0 (.cons (.var 0) (.cons (.var 1) .nil)))) qg4
noncomputable abbrev qg6:CSL:=.cons (.ret (.var 3)) .nil
noncomputable abbrev qg7:CSL:=.cons (.sif (.and (.cmp .Eq (.var 2) (.int 3)) (.one (.cmp .Gt (.var 1) (.int 0)))) qg5 .nil) qg6
noncomputable abbrev qg8:CSL:=.cons (.sfor (.nm 4) (.rng1 (.cons (.var 1) .nil)) qg3) qg7
noncomputable abbrev qgf:CSL:=.cons (.set 3 (.lst true .nil)) qg8
noncomputable abbrev qcr:CSL:=.cons (.set 2 (.call 0 (.cons (.var 0) (.cons (.int 4) .nil)))) qgf
noncomputable def qa0:List (Str × Nat × Nat):=[("_law_take",2,1),("_law_great",1,2)]
noncomputable def qbh:List Fd:=[qaa,qdy]
@[simp] theorem qun:qg qbh qa0 0=qp 2 qaa:=(rfl)
@[simp] theorem quo:qg qbh qa0 1=qp 1 qdy:=(rfl)
noncomputable def qbi:Fd:=qa9 (qt qbh qa0 qcr) 4
noncomputable abbrev qjk:CSL:=.cons (.ex (.mt .insert (.var 2) (.cons (.call 0 (.cons (.var 0) (.cons (.bin false .Add (.bi .len (.cons (.var 2) .nil)) (.int 1)) .nil))) (.cons (.ix (.lst false (.cons (.tup (.cons (.var 4) (.cons (.var 5) .nil))) (.cons (.tup (.cons (.var 5) (.cons (.var 4) .nil))) .nil))) (.call 0 (.cons (.var 0) (.cons (.int 2) .nil)))) .nil)))) .nil
noncomputable abbrev qjl:CSL:=.cons (.sif (.cmp .Lt (.call 0 (.cons (.var 0) (.cons (.int 4) .nil))) (.var 3)) qjk .nil) .nil
noncomputable abbrev qjm:CSL:=.cons (.sfor (.nm 5) (.rng1 (.cons (.var 4) .nil)) qjl) .nil
noncomputable abbrev qjn:CSL:=.cons (.ex (.mt .append (.var 2) (.cons (.ix (.lst false (.cons (.var 6) (.cons (.tup (.cons (.ix (.var 6) (.int 1)) (.cons (.ix (.var 6) (.int 0)) .nil))) .nil))) (.call 0 (.cons (.var 0) (.cons (.int 2) .nil)))) .nil))) .nil
noncomputable abbrev qjo:CSL:=.cons (.set 6 (.ix (.var 2) (.call 0 (.cons (.var 0) (.cons (.bi .len (.cons (.var 2) .nil)) .nil))))) qjn
noncomputable abbrev qjp:CSL:=.cons (.ret (.frz (.var 2))) .nil
noncomputable abbrev qjq:CSL:=.cons (.sif (.and (.cmp .Gt (.bi .len (.cons (.var 2) .nil)) (.int 0)) (.one (.cmp .Eq (.call 0 (.cons (.var 0) (.cons (.int 3) .nil))) (.int 0)))) qjo .nil) qjp
noncomputable abbrev qjr:CSL:=.cons (.sfor (.nm 4) (.rng1 (.cons (.var 1) .nil)) qjm) qjq
noncomputable abbrev qjs:CSL:=.cons (.set 3 (.bin false .Add (.int 1) (.call 0 (.cons (.var 0) (.cons (.int 4) .nil))))) qjr
noncomputable abbrev qjt:CSL:=.cons (.set 2 (.lst true .nil)) qjs
noncomputable abbrev qdk:CSL:=.cons (.sif (.cmp .Lt (.var 1) (.int 2)) (.cons (.ret (.lst false .nil)) .nil) .nil) qjt
noncomputable def qca:List (Str × Nat × Nat):=[("_law_take",2,1)]
noncomputable def qdl:List Fd:=[qaa]
@[simp] theorem qwt:qg qdl qca 0=qp 2 qaa:=(rfl)
noncomputable def qcb:Fd:=qa9 (qt qdl qca qdk) 5
noncomputable abbrev qju:CSL:=.cons (.ret (.call 1 (.cons (.var 0) (.cons (.var 1) .nil)))) .nil
noncomputable abbrev qdm:CSL:=.cons (.sif (.cmp .Eq (.call 0 (.cons (.var 0) (.cons (.int 4) .nil))) (.int 0)) (.cons (.ret .non) .nil) .nil) qju
noncomputable def qcc:List (Str × Nat × Nat):=[("_law_take",2,1),("_law_tie_list",2,2)]
noncomputable def qdn:List Fd:=[qaa,qcb]
@[simp] theorem qwu:qg qdn qcc 0=qp 2 qaa:=(rfl)
@[simp] theorem qwv:qg qdn qcc 1=qp 2 qcb:=(rfl)
noncomputable def qcd:Fd:=qa9 (qt qdn qcc qdm) 0
noncomputable abbrev qh4:CSL:=.cons (.ret (.bi (.list false) (.cons (.var 0) .nil))) .nil
noncomputable abbrev qcx:CSL:=.cons (.sif (.cmp .Is (.var 0) .non) (.cons (.ret .non) .nil) .nil) qh4
noncomputable def qe4:List (Str × Nat × Nat):=[]
noncomputable def qk0:List Fd:=[]
noncomputable def qbp:Fd:=qa9 (qt qk0 qe4 qcx) 0
noncomputable abbrev qtn:CSL:=.cons (.ret (.or (.cmp .In (.tup (.cons (.var 1) (.cons (.var 2) .nil))) (.var 0)) (.one (.cmp .In (.tup (.cons (.var 2) (.cons (.var 1) .nil))) (.var 0))))) .nil
noncomputable abbrev qjv:CSL:=.cons (.sif (.cmp .Is (.var 0) .non) (.cons (.ret (.cmp .NotEq (.var 1) (.var 2))) .nil) .nil) qtn
noncomputable def qpk:List (Str × Nat × Nat):=[]
noncomputable def qyn:List Fd:=[]
noncomputable def qc8:Fd:=qa9 (qt qyn qpk qjv) 0
noncomputable abbrev qjw:CSL:=.cons (.ret (.tup (.cons (.str "low") (.cons (.var 3) (.cons (.var 4) .nil))))) .nil
noncomputable abbrev qjx:CSL:=.cons (.ret (.tup (.cons (.str "self") (.cons (.var 3) (.cons (.var 3) .nil))))) .nil
noncomputable abbrev qjy:CSL:=.cons (.ret (.tup (.cons (.str "lone") (.cons (.var 3) (.cons (.var 4) .nil))))) .nil
noncomputable abbrev qjz:CSL:=.cons (.ret (.tup (.cons (.str "odd") (.cons (.var 3) (.cons (.var 4) .nil))))) .nil
noncomputable abbrev qj0:CSL:=.cons (.sif (.cmp .NotEq (.var 5) (.ix (.ix (.var 2) (.var 4)) (.var 3))) qjz .nil) .nil
noncomputable abbrev qj1:CSL:=.cons (.sif (.and (.cmp .Gt (.var 5) (.int 0)) (.one (.not (.tru (.call 0 (.cons (.var 1) (.cons (.var 3) (.cons (.var 4) .nil)))))))) qjy .nil) qj0
noncomputable abbrev qj2:CSL:=.cons (.sif (.and (.cmp .Eq (.var 3) (.var 4)) (.one (.cmp .NotEq (.var 5) (.int 0)))) qjx .nil) qj1
noncomputable abbrev qj3:CSL:=.cons (.sif (.cmp .Lt (.var 5) (.int 0)) qjw .nil) qj2
noncomputable abbrev qj4:CSL:=.cons (.set 5 (.ix (.ix (.var 2) (.var 3)) (.var 4))) qj3
noncomputable abbrev qj5:CSL:=.cons (.ret (.tup (.cons (.str "over") (.cons (.var 3) (.cons (.neg (.int 1)) .nil))))) .nil
noncomputable abbrev qh5:CSL:=.cons (.sif (.cmp .Gt (.bi .sum (.cons (.ix (.var 2) (.var 3)) .nil)) (.bin false .Mult (.int 2) (.ix (.var 0) (.var 3)))) qj5 .nil) .nil
noncomputable abbrev qh6:CSL:=.cons (.sfor (.nm 4) (.rng1 (.cons (.bi .len (.cons (.var 0) .nil)) .nil)) qj4) qh5
noncomputable abbrev qh7:CSL:=.cons (.ret .non) .nil
noncomputable abbrev qdo:CSL:=.cons (.sfor (.nm 3) (.rng1 (.cons (.bi .len (.cons (.var 0) .nil)) .nil)) qh6) qh7
noncomputable def qdp:List (Str × Nat × Nat):=[("_law_are",3,1)]
noncomputable def qfp:List Fd:=[qc8]
@[simp] theorem qww:qg qfp qdp 0=qp 3 qc8:=(rfl)
noncomputable def qce:Fd:=qa9 (qt qfp qdp qdo) 3
noncomputable abbrev qm5:CSL:=.cons (.sif (.and (.cmp .NotEq (.var 2) (.var 3)) (.and (.tru (.call 0 (.cons (.var 0) (.cons (.var 2) (.cons (.var 3) .nil))))) (.one (.cmp .Lt (.bin false .Add (.ix (.var 1) (.var 2)) (.ix (.var 1) (.var 3))) (.int 2))))) (.cons (.ret (.bl false)) .nil) .nil) .nil
noncomputable abbrev qm6:CSL:=.cons (.sfor (.nm 3) (.rng1 (.cons (.bi .len (.cons (.var 1) .nil)) .nil)) qm5) .nil
noncomputable abbrev qm7:CSL:=.cons (.ret (.bl true)) .nil
noncomputable abbrev qev:CSL:=.cons (.sfor (.nm 2) (.rng1 (.cons (.bi .len (.cons (.var 1) .nil)) .nil)) qm6) qm7
noncomputable def qew:List (Str × Nat × Nat):=[("_law_are",3,1)]
noncomputable def qh8:List Fd:=[qc8]
@[simp] theorem qyx:qg qh8 qew 0=qp 3 qc8:=(rfl)
noncomputable def qc4:Fd:=qa9 (qt qh8 qew qev) 2
noncomputable abbrev qj6:CSL:=.cons (.ret (.bi .sum (.cons (.lc false 1 (.nm 0) (.seq (.var 0)) .yes (.bi .sum (.cons (.var 0) .nil))) .nil))) .nil
noncomputable def qpl:List (Str × Nat × Nat):=[]
noncomputable def qyo:List Fd:=[]
noncomputable def qf7:Fd:=qa9 (qt qyo qpl qj6) 0
noncomputable abbrev qg9:CSL:=.cons (.ret (.bi .sum (.cons (.lc false 1 (.nm 0) (.rng1 (.cons (.bi .len (.cons (.var 1) .nil)) .nil)) .yes (.bin false .Mult (.ix (.var 1) (.var 0)) (.ix (.var 2) (.var 0)))) .nil))) .nil
noncomputable def qm8:List (Str × Nat × Nat):=[]
noncomputable def qve:List Fd:=[]
noncomputable def qex:Fd:=qa9 (qt qve qm8 qg9) 0
noncomputable abbrev qqz:CSL:=.cons (.ret (.cmp .Eq (.call 4 (.cons (.var 2) .nil)) (.bin false .Mult (.int 2) (.call 5 (.cons (.var 0) (.cons (.var 3) .nil)))))) .nil
noncomputable abbrev qq0:CSL:=.cons (.sif (.not (.tru (.bi .all (.cons (.lc false 1 (.nm 0) (.seq (.var 3)) .yes (.chain .LtE .LtE (.int 0) (.var 0) (.int 2))) .nil)))) (.cons (.ret (.bl false)) .nil) .nil) qqz
noncomputable abbrev qq1:CSL:=.cons (.sif (.or (.cmp .IsNot (.call 2 (.cons (.var 0) (.cons (.var 1) (.cons (.var 2) .nil)))) .non) (.one (.not (.tru (.call 3 (.cons (.var 1) (.cons (.var 3) .nil))))))) (.cons (.ret (.bl false)) .nil) .nil) qq0
noncomputable abbrev qq2:CSL:=.cons (.sif (.or (.not (.tru (.call 0 (.cons (.var 2) (.cons (.var 4) .nil))))) (.one (.not (.tru (.call 1 (.cons (.var 3) (.cons (.var 4) .nil))))))) (.cons (.ret (.bl false)) .nil) .nil) qq1
noncomputable abbrev qha:CSL:=.cons (.set 4 (.bi .len (.cons (.var 0) .nil))) qq2
noncomputable def qbb:List (Str × Nat × Nat):=[("_law_whole_rows",2,1),("_law_whole_list",2,1),("_law_fault_of",3,2),("_law_covers",2,2),("_law_sum",1,1),("_law_cost",2,1)]
noncomputable def qbt:List Fd:=[qbf,qbg,qce,qc4,qf7,qex]
@[simp] theorem q12:qg qbt qbb 0=qp 2 qbf:=(rfl)
@[simp] theorem q13:qg qbt qbb 1=qp 2 qbg:=(rfl)
@[simp] theorem q14:qg qbt qbb 2=qp 3 qce:=(rfl)
@[simp] theorem q15:qg qbt qbb 3=qp 2 qc4:=(rfl)
@[simp] theorem q16:qg qbt qbb 4=qp 1 qf7:=(rfl)
@[simp] theorem q17:qg qbt qbb 5=qp 2 qex:=(rfl)
noncomputable def qdq:Fd:=qa9 (qt qbt qbb qha) 1
theorem q0t {i j:Int} (h: -(2 ^ 64) < i) (h':i < 2 ^ 64):qe3 i j=true:=by
 unfold qe3;rw[Bool.or_eq_true];exact .inl (decide_eq_true (.inl ⟨h,h'⟩))
theorem mul_r {i j:Int} (h: -(2 ^ 64) < j) (h':j < 2 ^ 64):qe3 i j=true:=by
 unfold qe3;rw[Bool.or_eq_true];exact .inl (decide_eq_true (.inr ⟨h,h'⟩))
theorem qm9 {l:Nat} {S:Sto} {xs:List D} {f:List D→Option (D × List D)} (h:S[l]? =some (.lst xs)):qbs (.ref l) f S=match f xs with
   | some (d,ys)=>.ok d (S.set l (.lst ys))
   | none=>.no:=by
 unfold qbs;dsimp only;rw[h] <;> rfl
theorem qhb {new:Bool} {ds:List D} (h:ds.length≤1000):mkL new ds=alloc new (.lst ds):=by unfold mkL;rw[if_pos (qby h)]
theorem qey {ds:List D} (h:ds.length≤1000):mkT ds=M.pure (.tup ds):=by unfold mkT;rw[if_pos (qby h)]
@[simp] theorem qada {new:Bool}:mkL new []=alloc new (.lst []):=qhb (Nat.zero_le _)
@[simp] theorem qadb {d:D} {S:Sto}:alloc true d S=.ok (.ref S.length) (S++[d.cell]):=(rfl)
@[simp] theorem qadc {d:D} {S:Sto}:alloc false d S=.ok d S:=(rfl)
@[simp] theorem qab2 {xs:List D}:D.cell (.lst xs)=.lst xs:=(rfl)
@[simp] theorem qab3 {ks:List Key} {xs:List D}:D.cell (.dct ks xs)=.dct ks xs:=(rfl)
@[simp] theorem qadd {xs:List D}:mtT .append (.lst xs)=true:=(rfl)
@[simp] theorem qade {xs:List D}:mtT .insert (.lst xs)=true:=(rfl)
theorem qhc {l:Nat} {S:Sto} {xs:List D} {d:D} (h:S[l]? =some (.lst xs)) (hz:xs.length≤1000):mtF .append (.ref l) [d] S=.ok .non (S.set l (.lst (xs++[d]))):=by
 show qbs (.ref l) (fun xs=>if decide (xs.length < sizeLine)then some (.non,xs++[d])else none) S=_
 rw[qm9 h,if_pos (decide_eq_true (qbv hz))]
theorem q85 {l:Nat} {S:Sto} {xs:List D} {j:Int} {d:D} (h:S[l]? =some (.lst xs)) (hz:xs.length≤1000) (h0:0≤j) (h1:j≤xs.length):mtF .insert (.ref l) [.int j,d] S=.ok .non (S.set l (.lst (xs.take j.toNat++d::xs.drop j.toNat))):=by
 show qbs (.ref l) (fun xs=>if decide (xs.length < sizeLine) && decide (0≤j) && decide (j≤xs.length)then some (.non,xs.take j.toNat++d::xs.drop j.toNat)else none) S=_
 rw[qm9 h,if_pos]
 rw[Bool.and_eq_true,Bool.and_eq_true]
 exact⟨⟨decide_eq_true (qbv hz),decide_eq_true h0⟩,decide_eq_true h1⟩
theorem qbj {j:Int} (h:qhr j=true):qd3 [.int j]=M.pure (qd6 0 j.toNat,[]):=by
 unfold qd3;dsimp only;rw[if_pos h]
theorem qv {S:Sto}:qag [] S:=fun p hp=>by simp at hp
theorem q0u {c:Cell} {S:Sto} {P:D→Sto→Prop} (hc:qen c) (k:∀ r c',0≤r→r < 10 ^ 18→qen c'→P (.int r) (c'::S)):Ok (qdy [.ref 0] (c::S)) P:=by
 refine Ok.run ?_
 unfold qfn
 rw[qa]
 simp
 refine qad hc (by decide) (by decide) fun r c1 h0 h1 hc1=> ?_
 rw[qa]
 simp
 refine qbz (fun h=> ?_) fun h=> ?_
 · simp [qa]
   exact qad hc1 (by decide) (by decide) fun r c1 h0 h1 hc1=>k r c1 h0 (by omega) hc1
 · rw [qa]
   simp
   refine qbz (fun h=> ?_) fun h=> ?_
   · simp [qa]
     exact qad hc1 (by decide) (by decide) fun r c1 h0 h1 hc1=>k r c1 h0 (by omega) hc1
   · rw[qa]
     simp
     rw[qa]
     simp
     rw[qbj (by decide)]
     simp
     refine qaq (fun i Γ S'=>∃ r2 v c2,Γ=[some (.ref 0),some (.int r),some (.int r2),v]∧S'=c2::S∧qen c2∧0≤r2∧r2 < 1000000 ^ i) ⟨0,_,c1,rfl,rfl,hc1,by decide,by decide⟩ (fun _ _ _ _=>qv) (fun i d Γ S' e h=> ?_) fun Γ S' h=> ?_
     · obtain ⟨r2,v,c2,rfl,rfl,hc2,a1,a2⟩:=h
       simp [qa,qmf (mul_r (i:=r2) (j:=1000000) (by decide) (by decide))]
       refine qad hc2 (by decide) (by decide) fun r3 c3 g0 g1 hc3=> ?_
       simp
       refine⟨hc3,by omega,?_⟩
       rw[Int.pow_succ]
       have:r2+1≤1000000 ^ i:=a2
       have:(r2+1) * 1000000≤1000000 ^ i * 1000000:=Int.mul_le_mul_of_nonneg_right this (by decide)
       omega
     · obtain ⟨r2,v,c2,rfl,rfl,hc2,a1,a2⟩:=h
       simp [qa]
       simp [qd6]at a2
       exact k r2 c2 a1 (by omega) hc2
theorem qfq:∀ ns:List Int,intsOf (ns.map D.int)=some ns
 | []=>rfl
 | n::ns=>by rw[List.map_cons,intsOf,qfq ns];rfl
theorem sum_ints {ns:List Int}:qlz (ns.map D.int)=M.pure (.int ns.sum):=by
 unfold qlz;rw[qfq]
theorem q0v {B:Int}:∀ ns:List Int,(∀ n ∈ ns,0≤n∧n≤B)→0≤ns.sum∧ns.sum≤ns.length * B
 | [],_=>by simp
 | n::ns,h=>by
   have h1:=h n (by simp)
   have h2:=q0v ns fun x hx=>h x (by simp [hx])
   rw[List.sum_cons,List.length_cons]
   have:((ns.length+1:Nat):Int) * B=ns.length * B+B:=by rw[Int.natCast_add,Int.add_mul];simp
   rw[this]
   omega
theorem qoc {c:Cell} {S:Sto} {m:Nat} {P:D→Sto→Prop} (hc:qen c) (hm:m≤63) (k:∀ (ns:List Int) c',ns.length=m→(∀ n ∈ ns,0≤n∧n < 10 ^ 20)→qen c'→P (.ref (S.length+1)) (c'::(S++[.lst (ns.map D.int)]))):Ok (qbi [.ref 0,.int m] (c::S)) P:=by
 refine Ok.run ?_
 unfold qcr
 rw[qa]
 simp
 refine qad hc (by decide) (by decide) fun way c1 h0 h1 hc1=> ?_
 rw[qa]
 simp
 rw[qa]
 simp
 rw[qbj (by unfold qhr;rw[Bool.and_eq_true];exact⟨decide_eq_true (by omega),decide_eq_true (by omega)⟩)]
 simp
 refine qaq (fun i Γ S'=>∃ (ns:List Int) (v:Option D) (c2:Cell),Γ=[some (.ref 0),some (.int m),some (.int way),some (.ref (S.length+1)),v,none]∧S'=c2::(S++[.lst (ns.map D.int)])∧qen c2∧ns.length=i∧∀ n ∈ ns,0≤n∧n < 10 ^ 18) ⟨[],_,c1,rfl,rfl,hc1,rfl,by simp⟩ (fun _ _ _ _=>qv) (fun i d Γ S' e h=> ?_) fun Γ S' h=> ?_
 · obtain ⟨ns,v,c2,rfl,rfl,hc2,hl,hb⟩:=h
   have hi:i < m:=by have:=(List.getElem?_eq_some_iff.mp e).1;simpa [qd6]using this
   have put:∀ (r:Int) (c3:Cell),0≤r→r < 10 ^ 18→qen c3→Ok (mtF .append (.ref (S.length+1)) [.int r] (c3::(S++[.lst (ns.map D.int)]))) fun x S1=>∃ (x:List Int) (x_1:Cell),S1=x_1::(S++[Cell.lst (x.map D.int)])∧qen x_1∧x.length=i+1∧∀ (n:Int),n ∈ x→0≤n∧n < 10 ^ 18:=fun r c3 r0 r1 hc3=>by
     rw[qhc (xs:=ns.map D.int) (by simp) (by simp;omega)]
     refine⟨ns++[r],c3,by simp,hc3,by simp [hl],fun n hn=> ?_⟩
     rcases List.mem_append.mp hn with z | z
     · exact hb n z
     · rw[List.mem_singleton.mp z];exact⟨r0,r1⟩
   simp [qa]
   refine qbz (fun h=> ?_) fun h=> ?_
   · exact qad hc2 (by decide) (by decide) fun r c3 r0 r1 hc3=>put r c3 r0 (by omega) hc3
   · refine qbz (fun h=> ?_) fun h=> ?_
     · exact q0u hc2 fun r c3 r0 r1 hc3=>put r c3 r0 r1 hc3
     · refine qad hc2 (by decide) (by decide) fun r c3 r0 r1 hc3=> ?_
       refine qad hc3 (by decide) (by decide) fun r' c4 r0' r1' hc4=> ?_
       rw[qmf (q0t (by omega) (by omega))]
       have:r * r'≤2 * 59:=Int.mul_le_mul (by omega) (by omega) r0' (by decide)
       exact put _ c4 (Int.mul_nonneg r0 r0') (by omega) hc4
 · obtain ⟨ns,v,c2,rfl,rfl,hc2,hl,hb⟩:=h
   have hl:ns.length=m:=by simpa [qd6]using hl
   have fin:∀ (v v':Option D) (ns:List Int) (c':Cell),ns.length=m→(∀ n ∈ ns,0≤n∧n < 10 ^ 20)→qen c'→Ok (qt qbh qa0 (.cons (.ret (.var 3)) .nil) [some (.ref 0),some (.int m),some (.int way),some (.ref (S.length+1)),v,v'] (c'::(S++[.lst (ns.map D.int)]))) (Ret P):=fun v v' ns c' h1 h2 h3=>by
     simp [qa]
     exact k ns c' h1 h2 h3
   have low:∀ n ∈ ns,0≤n∧n < 10 ^ 20:=fun n hn=>by have:=hb n hn;omega
   rw[q5b,qa]
   simp
   refine qbz (fun h=> ?_) fun h=> ?_
   · refine qbz (fun h'=> ?_) fun h'=> ?_
     · rw[qa]
       simp
       refine qad hc2 (by omega) (by omega) fun at_ c3 a0 a1 hc3=> ?_
       obtain ⟨j,rfl⟩:=Int.eq_ofNat_of_zero_le a0
       obtain ⟨x,e1,e2⟩:=q0r (xs:=ns.map D.int) (i:=(j:Int)) a0 (by simp;omega)
       simp at e1
       obtain ⟨x',e1,rfl⟩:=e1
       rw[qa]
       simp [biF,qb2,sum_ints,e2]
       refine qad hc3 (by decide) (by decide) fun r c4 r0 r1 hc4=> ?_
       simp [qea,maxD,qle (show j < ns.length by omega)]
       obtain ⟨b0,b1⟩:=q0v (B:=10 ^ 18) ns fun n hn=>by have:=hb n hn;omega
       have b2:(ns.length:Int) * 10 ^ 18≤63 * 10 ^ 18:=Int.mul_le_mul_of_nonneg_right (by omega) (by decide)
       have b3:=hb x' (List.mem_of_getElem? e1)
       have:=fin v (some (.int j)) (ns.set j (if 1 < ns.sum - x'+r then ns.sum - x'+r - 1 else 0)) c4 (by simp [hl]) (fun n hn=>by
         rcases List.mem_or_eq_of_mem_set hn with z | z
         · exact low n z
         · subst z;split <;> omega) hc4
       rw[List.map_set]at this
       exact this
     · exact fin _ _ ns c2 hl low hc2
   · exact fin _ _ ns c2 hl low hc2
theorem qcf {m n:Nat} (h:m≤n) (hn:n≤1000:=by omega):qhr (m:Int)=true:=by
 unfold qhr;rw[Bool.and_eq_true];exact⟨decide_eq_true (by omega),decide_eq_true (by omega)⟩
theorem q0w {m i:Nat} {d:D} (e:(qd6 0 m)[i]? =some d):i < m∧d=.int i:=by
 have hi:i < m:=by have:=(List.getElem?_eq_some_iff.mp e).1;simpa [qd6]using this
 simp [qd6,hi]at e
 exact⟨hi,e.symm⟩
noncomputable def Still (d:D):Prop:=∀ (n:Nat) (S:Sto),frz n d S=some (d,S)
theorem qh9 {l:Nat} {S:Sto} {xs:List D} (h:S[l]? =some (.lst xs)) (hs:∀ d ∈ xs,Still d):qd8 (.ref l) S=.ok (.lst xs) (S.set l .gone):=by
 have all:∀ (xs:List D) (S:Sto),(∀ d ∈ xs,Still d)→frzs 2 xs S=some (xs,S):=by
   intro xs
   induction xs with
   | nil=>intro S _;simp [frzs]
   | cons d ds ih =>
     intro S hs
     rw[frzs,hs d (by simp) 2 S]
     dsimp only
     rw[ih S fun x hx=>hs x (by simp [hx])]
 unfold qd8
 have:frz 3 (.ref l) S=some (.lst xs,S.set l .gone):=by simp [frz,h,all xs S hs]
 rw[this]
theorem qc9 {i:Int}:Still (.int i):=fun n S=>by cases n <;> simp [frz]
theorem qpm {xs:List D}:Still (.tup xs):=fun n S=>by cases n <;> simp [frz]
@[simp] theorem q38 {l:Nat} {S:Sto} {xs:List D} (h:S[l]? =some (.lst xs)):biF .len [.ref l] S=.ok (.int xs.length) S:=by
 show qsl [.ref l] S=_
 unfold qsl
 dsimp only
 rw[qh h]
 rfl
noncomputable def qcg (p:Nat × Nat):D:=.tup [.int p.1,.int p.2]
noncomputable def qto (m:Nat) (ts:List (Nat × Nat)):Prop:=∀ p ∈ ts,p.1 < m∧p.2 < m∧p.1 ≠ p.2
theorem qtp {c:Cell} {S:Sto} {m:Nat} {P:D→Sto→Prop} (hc:qen c) (hm:m≤20) (k:∀ (ts:List (Nat × Nat)) c' T,qto m ts→ts.length≤401→qen c'→P (.lst (ts.map qcg)) (c'::(S++T))):Ok (qcb [.ref 0,.int m] (c::S)) P:=by
 refine Ok.run ?_
 unfold qdk
 rw[qa]
 simp
 refine qbz (fun h=> ?_) fun h=> ?_
 · simp [qa]
   have:=k [] c [] (fun p hp=>by simp at hp) (by simp) hc
   simpa using this
 · ((try simp);rw[qa];try simp)
   ((try simp);rw[qa];try simp)
   refine qad hc (by decide) (by decide) fun sh c1 s0 s1 hc1=> ?_
   ((try simp);rw[qa];try simp)
   rw[qbj (qcf hm)]
   simp
   refine qaq (fun i Γ S'=>∃ (ts:List (Nat × Nat)) (v v':Option D) (c2:Cell),Γ=[some (.ref 0),some (.int m),some (.ref (S.length+1)),some (.int (1+sh)),v,v',none]∧S'=c2::(S++[.lst (ts.map qcg)])∧qen c2∧qto m ts∧ts.length≤i * 20) ⟨[],_,_,c1,rfl,rfl,hc1,fun p hp=>by simp at hp,by simp⟩ (fun _ _ _ _=>qv) (fun i d Γ S' e h=> ?_) fun Γ S' h=> ?_
   · obtain ⟨ts,v,v',c2,rfl,rfl,hc2,ht,hl⟩:=h
     obtain ⟨hi,rfl⟩:=q0w e
     simp [qa]
     rw[qbj (qcf (show i≤20 by omega))]
     simp
     refine qaq (fun j Γ S'=>∃ (ts:List (Nat × Nat)) (v':Option D) (c2:Cell),Γ=[some (.ref 0),some (.int m),some (.ref (S.length+1)),some (.int (1+sh)),some (.int i),v',none]∧S'=c2::(S++[.lst (ts.map qcg)])∧qen c2∧qto m ts∧ts.length≤i * 20+j) ⟨ts,v',c2,rfl,rfl,hc2,ht,hl⟩ (fun _ _ _ _=>qv) (fun j d Γ S' e h=> ?_) fun Γ S' h=> ?_
     · obtain ⟨ts,v',c2,rfl,rfl,hc2,ht,hl⟩:=h
       obtain ⟨hj,rfl⟩:=q0w e
       simp [qa]
       refine qad hc2 (by decide) (by decide) fun r c3 r0 r1 hc3=> ?_
       simp
       refine qbz (fun h=> ?_) fun h=> ?_
       · refine qad hc3 (by omega) (by omega) fun at_ c4 a0 a1 hc4=> ?_
         simp [qey,qhb]
         refine qad hc4 (by omega) (by omega) fun w c5 w0 w1 hc5=> ?_
         obtain ⟨q,e1,e2,e3,e4⟩:∃ q:Nat × Nat,atI [D.tup [.int i,.int j],.tup [.int j,.int i]] w=some (qcg q)∧q.1 < m∧q.2 < m∧q.1 ≠ q.2:=by
           have:w=0∨w=1:=by omega
           rcases this with rfl | rfl
           · exact⟨(i,j),by simp [qcg],hi,by omega,by show i ≠ j;omega⟩
           · exact⟨(j,i),by simp [qcg],by omega,hi,by show j ≠ i;omega⟩
         simp [e1]
         rw[q85 (xs:=ts.map qcg) (by simp) (by simp;omega) a0 (by simp;omega)]
         simp
         refine⟨ts.take at_.toNat++q::ts.drop at_.toNat,c5,⟨rfl,by simp⟩,hc5,fun p hp=> ?_,by simp;omega⟩
         rcases List.mem_append.mp hp with z | z
         · exact ht p (List.mem_of_mem_take z)
         · rcases List.mem_cons.mp z with rfl | z
           · exact⟨e2,e3,e4⟩
           · exact ht p (List.mem_of_mem_drop z)
       · exact⟨ts,c3,⟨rfl,rfl⟩,hc3,ht,by omega⟩
     · obtain ⟨ts,v',c2,rfl,rfl,hc2,ht,hl⟩:=h
       simp
       simp [qd6]at hl
       exact⟨ts,c2,⟨rfl,rfl⟩,hc2,ht,by omega⟩
   · obtain ⟨ts,v,v',c2,rfl,rfl,hc2,ht,hl⟩:=h
     have hl:ts.length≤400:=by simp [qd6]at hl;omega
     have fin:∀ (v v' v6:Option D) (ts:List (Nat × Nat)) (c':Cell),ts.length≤401→qto m ts→qen c'→Ok (qt qdl qca (.cons (.ret (.frz (.var 2))) .nil) [some (.ref 0),some (.int m),some (.ref (S.length+1)),some (.int (1+sh)),v,v',v6] (c'::(S++[.lst (ts.map qcg)]))) (Ret P):=fun v v' v6 ts c' h1 h2 h3=>by
       simp [qa]
       rw[qh9 (xs:=ts.map qcg) (by simp) (fun d hd=> ?_)]
       · simp
         exact k ts c' [.gone] h2 h1 h3
       · obtain ⟨p,_,rfl⟩:=List.mem_map.mp hd
         exact qpm
     ((try simp);rw[qa];try simp)
     refine qbz (fun h=> ?_) fun h=> ?_
     · refine qad hc2 (by decide) (by decide) fun r c3 r0 r1 hc3=> ?_
       simp
       refine qbz (fun h=> ?_) fun h=> ?_
       · ((try simp);rw[qa];try simp)
         refine qad hc3 (by omega) (by omega) fun at_ c4 a0 a1 hc4=> ?_
         obtain ⟨j,rfl⟩:=Int.eq_ofNat_of_zero_le a0
         have hj:j < ts.length:=by omega
         have e2:atI (ts.map qcg) (j:Int)=some (qcg ts[j]):=qfy (by simp [hj])
         have hq:=ht _ (List.getElem_mem hj)
         generalize ts[j]=q at *
         simp [e2,qcg]
         ((try simp);rw[qa];try simp)
         simp [qey,qhb]
         refine qad hc4 (by omega) (by omega) fun w c5 w0 w1 hc5=> ?_
         obtain ⟨q',e1,e2⟩:∃ q':Nat × Nat,atI [D.tup [.int q.1,.int q.2],.tup [.int q.2,.int q.1]] w=some (qcg q')∧q'.1 < m∧q'.2 < m∧q'.1 ≠ q'.2:=by
           have:w=0∨w=1:=by omega
           rcases this with rfl | rfl
           · exact⟨q,by simp [qcg],hq⟩
           · exact⟨(q.2,q.1),by simp [qcg],hq.2.1,hq.1,Ne.symm hq.2.2⟩
         simp [e1]
         rw[qhc (xs:=ts.map qcg) (by simp) (by simp;omega)]
         simp
         have:=fin v v' (some (.tup [.int q.1,.int q.2])) (ts++[q']) c5 (by simp;omega) (fun p hp=>by
           rcases List.mem_append.mp hp with z | z
           · exact ht p z
           · rw[List.mem_singleton.mp z];exact e2) hc5
         simpa using this
       · exact fin _ _ _ ts c3 (by omega) ht hc3
     · exact fin _ _ _ ts c2 (by omega) ht hc2
noncomputable def vec {α:Type} (n:Nat) (g:Nat→α):List α:=(List.range n).map g
section
variable {α β:Type} {n:Nat} {g:Nat→α}
@[simp] theorem qav:(vec n g).length=n:=by simp [vec]
theorem qdz {i:Nat}:(vec n g)[i]? =if i < n then some (g i)else none:=by
 unfold vec;by_cases h:i < n <;> simp [h]
theorem qch {i:Nat} {a:α} (h:(vec n g)[i]? =some a):i < n∧a=g i:=by
 rw[qdz]at h;split at h
 · exact⟨by assumption,(Option.some.inj h).symm⟩
 · cases h
theorem qfr {i:Nat} (h:i < n):(vec n g)[i]? =some (g i):=by rw[qdz,if_pos h]
theorem qbk {i:Nat} (h:i < n):atI (vec n g) (i:Int)=some (g i):=qfy (qfr h)
theorem qwx {f:α→β}:(vec n g).map f=vec n fun i=>f (g i):=by simp [vec,Function.comp_def]
theorem qq3 {f:Nat→α} (h:∀ i < n,f i=g i):vec n f=vec n g:=by
 unfold vec;exact List.map_congr_left fun i hi=>h i (List.mem_range.mp hi)
theorem qq4 {i:Nat} {a:α}:(vec n g).set i a=vec n fun k=>if k=i then a else g k:=by
 refine List.ext_getElem? fun k=> ?_
 rw[List.getElem?_set,qdz,qdz]
 by_cases hk:i=k
 · subst hk
   by_cases h:i < n <;> simp [h]
 · simp [hk,Ne.symm hk]
theorem qq5 {a:α} (h:a ∈ vec n g):∃ i < n,a=g i:=by
 simp [vec]at h;obtain ⟨i,hi,e⟩:=h;exact⟨i,hi,e.symm⟩
theorem qci:vec (n+1) g=vec n g++[g n]:=by simp [vec,List.range_succ]
theorem qfs {g:Nat→D}:qfk (vec n g)=vec n fun i=>.tup [.int i,g i]:=by
 refine List.ext_getElem? fun k=> ?_
 rw[qdz]
 by_cases h:k < n
 · rw[if_pos h,qsp (qfr h)]
 · rw[if_neg h,List.getElem?_eq_none_iff,qi6,qav];omega
theorem qc5:qd6 0 n=vec n fun i=>.int i:=by simp [qd6,vec]
theorem qwy {a:α}:List.replicate n a=vec n fun _=>a:=by
 refine List.ext_getElem? fun k=> ?_
 rw[qdz,List.getElem?_replicate]
theorem q0x (xs:List α) (d:α):xs=vec xs.length fun i=>xs.getD i d:=by
 refine List.ext_getElem? fun k=> ?_
 rw[qdz]
 by_cases h:k < xs.length
 · rw[if_pos h];simp [h]
 · rw[if_neg h];simp;omega
end
theorem qvf {S S':Sto} (hl:S.length≤S'.length) (h:∀ k < S.length,S'[k]? =S[k]?):∃ T,S'=S++T:=by
 refine⟨S'.drop S.length,List.ext_getElem? fun k=> ?_⟩
 by_cases hk:k < S.length
 · rw[List.getElem?_append_left hk];exact h k hk
 · rw[List.getElem?_append_right (by omega),List.getElem?_drop]
   congr 1;omega
structure Mat (S:Sto) (l b n m:Nat) (f:Nat→Nat→D):Prop where
 top:S[l]? =some (.lst (vec n fun i=>.ref (b+i)))
 row:∀ i < n,S[b+i]? =some (.lst (vec m (f i)))
 out:l < b∨b+n≤l
theorem Mat.set {S:Sto} {l b n m:Nat} {f:Nat→Nat→D} (h:Mat S l b n m f) {i j:Nat} (hi:i < n) (v:D):Mat (S.set (b+i) (.lst ((vec m (f i)).set j v))) l b n m fun i' j'=>if i'=i∧j'=j then v else f i' j':=by
 refine⟨?_,fun k hk=> ?_,h.out⟩
 · rw[List.getElem?_set_ne (by have:=h.out;omega)];exact h.top
 · by_cases hki:k=i
   · subst hki
     have hl:b+k < S.length:=(List.getElem?_eq_some_iff.mp (h.row k hk)).1
     rw[List.getElem?_set,if_pos rfl,if_pos hl,qq4]
     simp
   · rw[List.getElem?_set_ne (by omega),h.row k hk]
     simp [hki]
theorem qpn {n:Nat} {d e:D} {S2:Sto}:∀ {xs ys:List D} {S S1:Sto},frzs n xs S=some (ys,S1)→frz n d S1=some (e,S2)→frzs n (xs++[d]) S=some (ys++[e],S2)
 | [],ys,S,S1,h,k=>by
   simp only [frzs,Option.some.injEq,Prod.mk.injEq]at h
   obtain ⟨rfl,rfl⟩:=h
   simp [frzs,k]
 | x ::xs,ys,S,S1,h,k=>by
   rw[frzs]at h
   rw[List.cons_append,frzs]
   cases e1:frz n x S with
   | none=>rw[e1]at h;cases h
   | some r =>
     obtain ⟨y,S3⟩:=r
     rw[e1]at h
     dsimp only at h ⊢
     cases e2:frzs n xs S3 with
     | none=>rw[e2]at h;cases h
     | some r =>
       obtain ⟨zs,S4⟩:=r
       rw[e2]at h
       cases h
       rw[qpn e2 k]
       rfl
theorem qq6 {S:Sto} {l b n m:Nat} {f:Nat→Nat→D} (h:Mat S l b n m f) (hs:∀ i j,Still (f i j)):∃ S',qd8 (.ref l) S=.ok (.lst (vec n fun i=>.lst (vec m (f i)))) S'∧S'.length=S.length∧∀ k,k ≠ l→(k < b∨b+n≤k)→S'[k]? =S[k]? :=by
 have row:∀ (xs:List D) (S:Sto),(∀ d ∈ xs,Still d)→frzs 1 xs S=some (xs,S):=by
   intro xs
   induction xs with
   | nil=>intro S _;simp [frzs]
   | cons d ds ih =>
     intro S hs
     rw[frzs,hs d (by simp) 1 S]
     dsimp only
     rw[ih S fun x hx=>hs x (by simp [hx])]
 have all:∀ (k:Nat) (S:Sto),k≤n→(∀ i < k,S[b+i]? =some (.lst (vec m (f i))))→∃ S',frzs 2 (vec k fun i=>.ref (b+i)) S=some (vec k fun i=>.lst (vec m (f i)),S')∧S'.length=S.length∧∀ j,(j < b∨b+k≤j)→S'[j]? =S[j]? :=by
   intro k
   induction k with
   | zero=>intro S _ _;exact⟨S,by simp [vec,frzs],rfl,fun _ _=>rfl⟩
   | succ k ih =>
     intro S hk hr
     obtain ⟨S1,e1,e2,e3⟩:=ih S (by omega) fun i hi=>hr i (by omega)
     have e4:S1[b+k]? =some (.lst (vec m (f k))):=by rw[e3 _ (.inr (Nat.le_refl _))];exact hr k (by omega)
     have e5:frz 2 (.ref (b+k)) S1=some (.lst (vec m (f k)),S1.set (b+k) .gone):=by
       simp [frz,e4,row (vec m (f k)) S1 fun d hd=>by obtain ⟨j,_,rfl⟩:=qq5 hd;exact hs k j]
     refine⟨S1.set (b+k) .gone,by rw[qci,qci];exact qpn e1 e5,by simp [e2],fun j hj=> ?_⟩
     rw[List.getElem?_set_ne (by omega)]
     exact e3 j (by omega)
 obtain ⟨S1,e1,e2,e3⟩:=all n S (Nat.le_refl _) h.row
 refine⟨S1.set l .gone,?_,by simp [e2],fun k hk hb=>by rw[List.getElem?_set_ne (Ne.symm hk)];exact e3 k hb⟩
 unfold qd8
 have:frz 3 (.ref l) S=some (.lst (vec n fun i=>.lst (vec m (f i))),S1.set l .gone):=by simp [frz,h.top,e1]
 rw[this]
theorem q0y {Φ:List Fd} {fn:List (Str × Nat × Nat)} {Γ:Env} {S:Sto} {src:Src} {n m:Nat} {ds:List D} {x:D} {hd:D→Env→M Env} {cond:Env→M Bool} {elt:Env→M D} {k:Nat} {Q:List D→Sto→Prop} (hn:ds.length=n) (hs:∀ T,qag src (S++T))
   (step:∀ d ∈ ds,∀ T,Ok (hd d (List.replicate k none++Γ) (S++T)) fun Γ1 S1=>Ok (cond Γ1 S1) fun b S2=>b=true∧Ok (elt Γ1 S2) fun y S3=>y=.ref (S++T).length∧S3=S++T++[.lst (vec m fun _=>x)])
   (fin:Q (vec n fun i=>.ref (S.length+i)) (S++vec n fun _=>.lst (vec m fun _=>x))):Ok (lcA src k hd cond elt Γ [] ds S) Q:=by
 subst hn
 refine qqq (fun i a S'=>a=(vec i fun i=>.ref (S.length+i))∧S'=S++vec i fun _=>.lst (vec m fun _=>x)) ⟨rfl,by simp [vec]⟩ (fun i a S' h=>h.2 ▸ hs _) (fun i d a S' e h=> ?_) fun a S' h=> ?_
 · obtain ⟨rfl,rfl⟩:=h
   refine(step d (List.mem_of_getElem? e) _).mono fun Γ1 S1 q=>q.mono fun b S2 q=> ?_
   obtain ⟨rfl,q⟩:=q
   rw[if_pos rfl]
   refine q.mono fun y S3 q=> ?_
   obtain ⟨rfl,rfl⟩:=q
   exact⟨by rw[qci];simp,by rw[qci];simp⟩
 · obtain ⟨rfl,rfl⟩:=h
   exact fin
theorem q39 {S T:Sto} {n m:Nat} {x:D} (hT:T=[.lst (vec n fun i=>.ref (S.length+i))]):Mat (S++(vec n fun _=>Cell.lst (vec m fun _=>x))++T) (S.length+n) S.length n m fun _ _=>x:=by
 subst hT
 refine⟨?_,fun i hi=> ?_,.inr (Nat.le_refl _)⟩
 · rw[List.getElem?_append_right (by simp)];simp
 · rw[List.getElem?_append_left (by simp;omega),List.getElem?_append_right (by omega)]
   simp [qfr hi]
section
variable {S:Sto} {l b n m:Nat} {f:Nat→Nat→D}
theorem Mat.ix (h:Mat S l b n m f) {i:Nat} (hi:i < n):ixM (look (.ref l) S) (.int i) S=.ok (.ref (b+i)) S:=by
 rw[qh h.top,qmg,qbk hi]
theorem Mat.get (h:Mat S l b n m f) {i j:Nat} (hi:i < n) (hj:j < m):ixM (look (.ref (b+i)) S) (.int j) S=.ok (f i j) S:=by
 rw[qh (h.row i hi),qmg,qbk hj]
theorem Mat.put (h:Mat S l b n m f) {i j:Nat} (hi:i < n) (hj:j < m) {v:D}:setM (.ref (b+i)) (.int j) v S=.ok () (S.set (b+i) (.lst ((vec m (f i)).set j v))) :=
 qqp (h.row i hi) (by rw[qav];exact qle hj)
theorem Mat.cong (h:Mat S l b n m f) {g:Nat→Nat→D} (e:∀ i j,i < n→j < m→f i j=g i j):Mat S l b n m g :=
 ⟨h.top,fun i hi=>by rw[h.row i hi,qq3 fun j hj=>e i j hi hj],h.out⟩
theorem Mat.keep (h:Mat S l b n m f) {S':Sto} (e:∀ k,(k=l∨(b≤k∧k < b+n))→S'[k]? =S[k]?):Mat S' l b n m f :=
 ⟨by rw[e l (.inl rfl)];exact h.top,fun i hi=>by rw[e _ (.inr ⟨by omega,by omega⟩)];exact h.row i hi,h.out⟩
theorem q0z {b:Bool}:Still (.bl b):=fun n S=>by cases n <;> simp [frz]
end
noncomputable def qac (ts:Option (List (Nat × Nat))) (i j:Nat):Bool:=match ts with
 | none=>i != j
 | some l=>l.any fun p=>(p.1==i && p.2==j) || (p.1==j && p.2==i)
noncomputable def qw:Option (List (Nat × Nat))→D
 | none=>.non
 | some l=>.lst (l.map qcg)
noncomputable def qod (n:Nat) (t:Nat→Nat→Bool):D:=.lst (vec n fun i=>.lst (vec n fun j=>.bl (t i j)))
noncomputable def qcs (n:Nat):Option (List (Nat × Nat))→Prop
 | none=>True
 | some l=>qto n l∧l.length≤900
theorem qz {n:Nat} (h:n≤1000):n < sizeLine:=qbv h
@[simp] theorem c_is {S:Sto}:qa8 .Is .non .non S=.ok (.bl true) S:=(rfl)
@[simp] theorem qagb {S:Sto} {xs:List D}:qa8 .Is (.lst xs) .non S=.ok (.bl false) S:=(rfl)
@[simp] theorem qagc {S:Sto} {i:Int}:qa8 .Is (.int i) .non S=.ok (.bl false) S:=(rfl)
@[simp] theorem qagd {S:Sto}:qa8 .IsNot .non .non S=.ok (.bl false) S:=(rfl)
@[simp] theorem qae8 {S:Sto} {i:Int}:qa8 .IsNot (.int i) .non S=.ok (.bl true) S:=(rfl)
theorem qwz {S:Sto} {x:D} {n:Nat} (h:n≤1000):qgn true .Mult (.lst [x]) (.int n) S=.ok (.ref S.length) (S++[.lst (vec n fun _=>x)]):=by
 have e:(decide ((n:Int) < 2 ^ 63) && decide (-(2 ^ 63)≤(n:Int)) && sizeOk ([x].length * (n:Int).toNat))=true:=by
   rw[Bool.and_eq_true,Bool.and_eq_true]
   exact⟨⟨decide_eq_true (by omega),decide_eq_true (by omega)⟩,qby (by simp;omega)⟩
 have e2:(List.replicate (n:Int).toNat [x]).flatten=vec n fun _=>x:=by rw[← qwy];simp
 simp only [qgn,seen,qx0,look]
 rw[if_pos e,e2]
 rfl
theorem qbq {Γ:Env} {S:Sto} {src:Src} {n k:Nat} {it g:Nat→D} {hd:D→Env→M Env} {cond:Env→M Bool} {elt:Env→M D} {Q:List D→Sto→Prop} (hs:qag src S)
   (step:∀ i < n,Ok (hd (it i) (List.replicate k none++Γ) S) fun Γ1 S1=>Ok (cond Γ1 S1) fun b S2=>b=true∧Ok (elt Γ1 S2) fun y S3=>y=g i∧S3=S) (fin:Q (vec n g) S):Ok (lcA src k hd cond elt Γ [] (vec n it) S) Q:=by
 refine qqq (fun i a S'=>a=vec i g∧S'=S) ⟨rfl,rfl⟩ (fun i a S' h=>h.2 ▸ hs) (fun i d a S' e h=> ?_) fun a S' h=> ?_
 · obtain ⟨rfl,rfl⟩:=h
   obtain ⟨hi,rfl⟩:=qch e
   refine(step i hi).mono fun Γ1 S1 q=>q.mono fun b S2 q=> ?_
   obtain ⟨rfl,q⟩:=q
   rw[if_pos rfl]
   refine q.mono fun y S3 q=> ?_
   obtain ⟨rfl,rfl⟩:=q
   exact⟨by rw[qci],rfl⟩
 · obtain ⟨rfl,rfl⟩:=h
   rw[qav]
   exact fin
theorem qia {S:Sto} {n:Nat} {ts:Option (List (Nat × Nat))} {P:D→Sto→Prop} (hn:n≤100) (ht:qcs n ts) (k:∀ T,P (qod n (qac ts)) (S++T)):Ok (qba [qw ts,.int n] S) P:=by
 refine Ok.run ?_
 unfold qfm
 cases ts with
 | none =>
   ((try simp);rw[qa];try simp)
   simp [qa,qw]
   rw[qbj (qcf hn),qc5]
   simp
   refine⟨qz (by omega),qbq (g:=fun i=>.lst (vec n fun j=>.bl (i != j))) qv (fun i hi=> ?_) ?_⟩
   · simp
     rw[qbj (qcf hn),qc5]
     simp
     refine⟨qz (by omega),qbq (g:=fun j=>.bl (i != j)) qv (fun j hj=> ?_) ⟨rfl,rfl⟩⟩
     simp
     rw[Bool.eq_iff_iff];simp;omega
   · have:=k []
     simpa [qod,qac]using this
 | some l =>
   simp only [qw]
   ((try simp);rw[qa];try simp)
   ((try simp);rw[qa];try simp)
   rw[qbj (qcf hn),qc5]
   simp
   refine⟨qz (by omega),q0y (Φ:=[]) (fn:=[]) (n:=n) (m:=n) (x:=.bl false) (by simp) (fun _=>qv) (fun d hd T=> ?_) ?_⟩
   · simp [qhb,qwz (show n≤1000 by omega)]
   · ((try simp);rw[qa];try simp)
     simp [qo]
     have h0:=q39 (S:=S) (n:=n) (m:=n) (x:=.bl false) rfl
     rw[← List.append_assoc]
     generalize hS:S++(vec n fun _=>Cell.lst (vec n fun _=>D.bl false))++[Cell.lst (vec n fun i=>.ref (S.length+i))]=S2 at h0 ⊢
     have hl2:S.length≤S2.length:=by rw[← hS];simp
     have hk2:∀ q < S.length,S2[q]? =S[q]? :=fun q hq=>by rw[← hS,List.append_assoc,List.getElem?_append_left hq]
     clear hS
     refine qaq (fun r Γ S'=>∃ (v v':Option D),Γ=[some (.lst (l.map qcg)),some (.int n),some (.ref (S.length+n)),v,v']∧Mat S' (S.length+n) S.length n n (fun i j=>.bl (qac (some (l.take r)) i j))∧S.length≤S'.length∧∀ q < S.length,S'[q]? =S[q]?) ⟨_,_,rfl,by simpa [qac]using h0,hl2,hk2⟩ (fun _ _ _ _=>qv) (fun r d Γ S' e h=> ?_) fun Γ S' h=> ?_
     · obtain ⟨v,v',rfl,hM,hl,hk⟩:=h
       rw[List.getElem?_map]at e
       cases e1:l[r]? with
       | none=>rw[e1]at e;cases e
       | some p =>
         rw[e1]at e
         cases e
         obtain ⟨h1,h2,h3⟩:=ht.1 p (List.mem_of_getElem? e1)
         obtain ⟨i,j⟩:=p
         simp only [qcg]at *
         ((try simp);rw[qa];try simp)
         rw[hM.ix h1]
         simp
         rw[hM.put h1 h2]
         have hM1:=hM.set (j:=j) h1 (.bl true)
         ((try simp);rw[qa];try simp)
         rw[hM1.ix h2]
         simp
         rw[hM1.put h2 h1]
         have hM2:=hM1.set (j:=i) h2 (.bl true)
         simp
         refine⟨?_,by simpa using hl,fun q hq=> ?_⟩
         · refine hM2.cong fun a b _ _=> ?_
           have ht:l.take (r+1)=l.take r++[(i,j)]:=by rw[List.take_succ,e1];rfl
           simp only [qac,ht,List.any_append,List.any_cons,List.any_nil]
           by_cases q1:a=j∧b=i
           · obtain ⟨rfl,rfl⟩:=q1;simp
           · by_cases q2:a=i∧b=j
             · obtain ⟨rfl,rfl⟩:=q2;simp
             · rw[if_neg q1,if_neg q2]
               have:(i==a && j==b || i==b && j==a)=false:=by
                 rw[Bool.or_eq_false_iff,Bool.and_eq_false_iff,Bool.and_eq_false_iff];simp;omega
               simp [this]
         · rw[List.getElem?_set_ne (by omega),List.getElem?_set_ne (by omega)]
           exact hk q hq
     · obtain ⟨v,v',rfl,hM,hl,hk⟩:=h
       rw[List.length_map,List.take_length]at hM
       obtain ⟨S3,e1,e2,e3⟩:=qq6 hM fun i j=>q0z
       simp [qa,e1]
       obtain ⟨T,rfl⟩:=qvf (S:=S) (S':=S3) (by omega) fun q hq=>by rw[e3 q (by omega) (.inl hq)];exact hk q hq
       exact k T
noncomputable def qft:Option Nat→D
 | none=>.non
 | some g=>.int g
noncomputable abbrev DL:=List (Nat × Option Nat)
noncomputable def ky (L:DL):List Nat:=L.map (·.1)
noncomputable def dks (L:DL):List Key:=L.map fun p=>.inl (p.1:Int)
noncomputable def dvs (L:DL):List D:=L.map fun p=>qft p.2
noncomputable def qas (L:DL):Cell:=.dct (dks L) (dvs L)
noncomputable def qck (L:DL):D:=.dct (dks L) (dvs L)
theorem qq7 {L:DL} {t:Nat}:qe6 (dks L) (.inl (t:Int))=decide (t ∈ ky L):=by
 unfold qe6 dks ky
 rw[Bool.eq_iff_iff]
 simp only [List.any_map,List.any_eq_true,Function.comp_apply,decide_eq_true_eq,List.mem_map]
 constructor
 · rintro ⟨p,h,e⟩;exact⟨p,h,by have:=Sum.inl.inj e;omega⟩
 · rintro ⟨p,h,e⟩;exact⟨p,h,by rw[e]⟩
theorem qw0 {L:DL} {t:Nat} {S:Sto} {l:Nat} (h:S[l]? =some (qas L)):qa8 .NotIn (.int t) (.ref l) S=.ok (.bl (decide (t ∉ ky L))) S:=by
 show inM true (.int t) (look (.ref l) S) S=_
 rw[qhu h]
 show Out.ok (D.bl (true != qe6 (dks L) (.inl (t:Int)))) S=_
 rw[qq7]
 by_cases e:t ∈ ky L <;> simp [e]
theorem q86 {L:DL} {t:Nat} {S:Sto}:qa8 .In (.int t) (qck L) S=.ok (.bl (decide (t ∈ ky L))) S:=by
 show Out.ok (D.bl (false != qe6 (dks L) (.inl (t:Int)))) S=_
 rw[qq7]
 by_cases e:t ∈ ky L <;> simp [e]
theorem qab4 {L:DL} {t:Nat} {o:Option Nat} {S:Sto} {l:Nat} (h:S[l]? =some (qas L)) (hz:L.length≤1000) (hn:t ∉ ky L):setM (.ref l) (.int t) (qft o) S=.ok () (S.set l (qas (L++[(t,o)]))):=by
 rw[qea,h]
 have hk:qe6 (dks L) (.inl (t:Int))=false:=by rw[qq7];simpa using hn
 show (if (dks L).length < sizeLine then _ else _)=_
 rw[if_pos (by simpa [dks]using qbv hz)]
 simp only [qbl,qaz,hk]
 simp [qas,dks,dvs]
theorem qa1 {L N:DL}:ky (L++N)=ky L++ky N:=by simp [ky]
noncomputable def qdr (ws:List Nat):D:=.lst (ws.map fun w:Nat=>D.int (w:Int))
theorem q00 {S:Sto} {l:Nat} {c:Cell} (h:S[l]? =some c):S.set l c=S:=by
 obtain ⟨hl,rfl⟩:=List.getElem?_eq_some_iff.mp h
 exact List.set_getElem_self hl
structure qj7 (n:Nat) (rel:Nat→Nat→Bool) (ws:List Nat) (L N:DL):Prop where
 nd:(ky (L++N)).Nodup
 lt:∀ t ∈ ky N,t < n
 from_:∀ p ∈ N,∃ g ∈ ws,p.2=some g∧rel g p.1=true
theorem qj7.add {n:Nat} {rel:Nat→Nat→Bool} {ws:List Nat} {L N:DL} (h:qj7 n rel ws L N) {t g:Nat} (ht:t < n) (hg:g ∈ ws) (hr:rel g t=true) (hn:t ∉ ky (L++N)):qj7 n rel ws L (N++[(t,some g)]):=by
 refine⟨?_,fun x hx=> ?_,fun p hp=> ?_⟩
 · rw[← List.append_assoc,qa1,List.nodup_append]
   exact⟨h.nd,by simp [ky],fun a ha b hb=>by simp [ky]at hb;subst hb;rintro rfl;exact hn ha⟩
 · rw[qa1]at hx
   rcases List.mem_append.mp hx with z | z
   · exact h.lt x z
   · simp [ky]at z;omega
 · rcases List.mem_append.mp hp with z | z
   · exact h.from_ p z
   · rw[List.mem_singleton.mp z];exact⟨g,hg,rfl,hr⟩
theorem qct:∀ {n:Nat} {xs:List Nat},xs.Nodup→(∀ x ∈ xs,x < n)→xs.length≤n
 | 0,xs,_,h=>by
   cases xs with
   | nil=>simp
   | cons x xs=>exact absurd (h x (by simp)) (by omega)
 | n +1,xs,hd,h=>by
   have h1:(xs.erase n).Nodup:=hd.erase n
   have h2:=qct (n:=n) h1 fun x hx=>by
     have:=h x (List.mem_of_mem_erase hx)
     have:x ≠ n:=fun e=>by subst e;exact(List.Nodup.not_mem_erase hd) hx
     omega
   have:=List.length_erase_le (a:=n) (l:=xs)
   by_cases hm:n ∈ xs
   · have:=List.length_erase_of_mem hm;omega
   · rw[List.erase_of_not_mem hm]at h2;omega
theorem qj7.len {n:Nat} {rel:Nat→Nat→Bool} {ws:List Nat} {L N:DL} (h:qj7 n rel ws L N):N.length≤n:=by
 have:=h.nd
 rw[qa1,List.nodup_append]at this
 have:=qct this.2.1 h.lt
 simpa [ky]using this
noncomputable def stF (S:Sto) (lt:Nat) (L N:DL):Sto:=S.set lt (qas (L++N))++[.lst ((ky N).map fun w:Nat=>D.int (w:Int))]
section
variable {n lt:Nat} {S:Sto} {L N:DL} {ws:List Nat} {P:D→Sto→Prop}
theorem q01 (hlt:lt < S.length):(stF S lt L N)[lt]? =some (qas (L++N)):=by
 unfold stF
 rw[List.getElem?_append_left (by simpa using hlt),List.getElem?_set,if_pos rfl,if_pos hlt]
theorem q5d:(stF S lt L N)[S.length]? =some (.lst ((ky N).map fun w:Nat=>D.int (w:Int))):=by
 unfold stF
 rw[List.getElem?_append_right (by simp)];simp
theorem qab5 {q:Nat} (hq:q < S.length) (h:q ≠ lt):(stF S lt L N)[q]? =S[q]? :=by
 unfold stF
 rw[List.getElem?_append_left (by simpa using hq),List.getElem?_set_ne (Ne.symm h)]
theorem q5e (hL:S[lt]? =some (qas L)):stF S lt L []=S++[.lst []]:=by
 unfold stF
 rw[show L++[]=L by simp,q00 hL];rfl
theorem qtq {j g:Nat} (hlt:lt < S.length) (hn:j ∉ ky (L++N)) (hz:L.length+N.length≤900) (q:P .non (stF S lt L (N++[(j,some g)]))) :
   Ok (setM (.ref lt) (.int j) (.int g) (stF S lt L N)) fun _ S3=>mtT .append (look (.ref S.length) S3)=true∧Ok (mtF .append (.ref S.length) [.int j] S3) P:=by
 have:setM (.ref lt) (.int j) (.int g) (stF S lt L N)=_:=qab4 (o:=some g) (q01 hlt) (by simp;omega) hn
 rw[this]
 have e:((stF S lt L N).set lt (qas (L++N++[(j,some g)])))[S.length]? =some (.lst ((ky N).map fun w:Nat=>D.int (w:Int))):=by
   rw[List.getElem?_set_ne (by omega)];exact q5d
 refine⟨by rw[qh e];rfl,?_⟩
 rw[qhc e (by simp [ky];omega)]
 show P .non _
 have:((stF S lt L N).set lt (qas (L++N++[(j,some g)]))).set S.length (.lst ((ky N).map (fun w:Nat=>D.int (w:Int))++[.int j]))=stF S lt L (N++[(j,some g)]):=by
   unfold stF
   rw[List.set_append_left _ _ (by simpa using hlt),List.set_set,List.set_append_right _ _ (by simp)]
   simp [ky]
 rw[this]
 exact q
theorem qtr (h:∀ T,P (qdr (ky N)) (S.set lt (qas (L++N))++[T])):Ok (qd8 (.ref S.length) (stF S lt L N)) P:=by
 rw[qh9 q5d (fun d hd=>by obtain ⟨p,_,rfl⟩:=List.mem_map.mp hd;exact qc9)]
 show P _ _
 have:(stF S lt L N).set S.length .gone=S.set lt (qas (L++N))++[.gone]:=by
   unfold stF
   rw[List.set_append_right _ _ (by simp)]
   simp
 rw[this]
 exact h _
theorem qoe {t:Nat→Nat→Bool} (hn:n≤100) (hL:S[lt]? =some (qas L)) (hll:L.length≤n) (hnd:(ky L).Nodup) (hw:∀ g ∈ ws,g < n)
   (k:∀ N T,qj7 n t ws L N→(∀ g ∈ ws,∀ j < n,t g j=true→j ∈ ky (L++N))→P (qdr (ky N)) (S.set lt (qas (L++N))++[T])):Ok (qb3 [qdr ws,.ref lt,qod n t] S) P:=by
 refine Ok.run ?_
 unfold qeo
 have hlt:lt < S.length:=(List.getElem?_eq_some_iff.mp hL).1
 ((try simp);rw[qa];try simp)
 ((try simp);rw[qa];try simp)
 simp [qdr,qo]
 rw[← q5e hL]
 refine qaq (fun i Γ S'=>∃ (v4 v5 v6:Option D) (N:DL),Γ=[some (qdr ws),some (.ref lt),some (qod n t),some (.ref S.length),v4,v5,v6]∧S'=stF S lt L N∧qj7 n t ws L N∧∀ g ∈ ws.take i,∀ j < n,t g j=true→j ∈ ky (L++N))
   ⟨_,_,_,[],rfl,rfl,⟨by simpa using hnd,by simp [ky],by simp⟩,by simp⟩ (fun _ _ _ _=>qv) (fun i d Γ S' e h=> ?_) fun Γ S' h=> ?_
 · obtain ⟨v4,v5,v6,N,rfl,rfl,hg,hc⟩:=h
   rw[List.getElem?_map]at e
   cases e1:ws[i]? with
   | none=>rw[e1]at e;cases e
   | some g =>
     rw[e1]at e
     cases e
     have hgw:=List.mem_of_getElem? e1
     have hgn:=hw g hgw
     simp [qa,qod,qbk hgn,qcl,qo,qap]
     rw[qfs]
     refine qaq (fun i' Γ S'=>∃ (v5 v6:Option D) (N:DL),Γ=[some (qdr ws),some (.ref lt),some (qod n t),some (.ref S.length),some (.int g),v5,v6]∧S'=stF S lt L N∧qj7 n t ws L N∧(∀ g ∈ ws.take i,∀ j < n,t g j=true→j ∈ ky (L++N))∧∀ j < i',t g j=true→j ∈ ky (L++N))
       ⟨_,_,N,rfl,rfl,hg,hc,by simp⟩ (fun _ _ _ _=>qv) (fun j d Γ S' e h=> ?_) fun Γ S' h=> ?_
     · obtain ⟨v5,v6,N,rfl,rfl,hg,hc,hc2⟩:=h
       obtain ⟨hj,rfl⟩:=qch e
       have hN:=hg.len
       simp [qa,qi1]
       refine qbz (fun h=> ?_) fun h=> ?_
       · rw[qw0 (q01 hlt)]
         simp
         refine qbz (fun h'=> ?_) fun h'=> ?_
         · refine⟨N,rfl,hg,hc,fun q hq r=> ?_⟩
           rcases Nat.lt_succ_iff_lt_or_eq.mp hq with z | rfl
           · exact hc2 q z r
           · exact h'
         · refine qtq hlt h' (by omega) ?_
           have more:∀ q,q ∈ ky (L++N)→q ∈ ky (L++(N++[(j,some g)])):=fun q hq=>by rw[← List.append_assoc,qa1];exact List.mem_append_left _ hq
           refine⟨_,rfl,hg.add hj hgw h h',fun g' hg' q hq r=>more q (hc g' hg' q hq r),fun q hq r=> ?_⟩
           rcases Nat.lt_succ_iff_lt_or_eq.mp hq with z | rfl
           · exact more q (hc2 q z r)
           · rw[← List.append_assoc,qa1];simp [ky]
       · refine⟨N,rfl,hg,hc,fun q hq r=> ?_⟩
         rcases Nat.lt_succ_iff_lt_or_eq.mp hq with z | rfl
         · exact hc2 q z r
         · exact absurd r (by simpa using h)
     · obtain ⟨v5,v6,N,rfl,rfl,hg,hc,hc2⟩:=h
       rw[qav]at hc2
       simp
       refine⟨rfl,N,rfl,hg,fun g' hg' q hq r=> ?_⟩
       rw[List.take_succ,e1]at hg'
       rcases List.mem_append.mp hg' with z | z
       · exact hc g' z q hq r
       · simp at z;subst z;exact hc2 q hq r
 · obtain ⟨v4,v5,v6,N,rfl,rfl,hg,hc⟩:=h
   rw[List.length_map,List.take_length]at hc
   simp [qa]
   exact qtr fun T=>k N T hg hc
theorem qof {l b:Nat} {f:Nat→Nat→Int} (hn:n≤100) (hL:S[lt]? =some (qas L)) (hM:Mat S l b n n fun i j=>.int (f i j)) (hd:lt ≠ l∧(lt < b∨b+n≤lt)) (hll:L.length≤n) (hnd:(ky L).Nodup) (hw:∀ g ∈ ws,g < n)
   (k:∀ N T,qj7 n (fun t g=>decide (0 < f g t)) ws L N→(∀ t ∈ ws,∀ g < n,0 < f g t→g ∈ ky (L++N))→P (qdr (ky N)) (S.set lt (qas (L++N))++[T])):Ok (qb4 [qdr ws,.ref lt,.ref l] S) P:=by
 refine Ok.run ?_
 unfold qep
 have hlt:lt < S.length:=(List.getElem?_eq_some_iff.mp hL).1
 have hM':∀ N,Mat (stF S lt L N) l b n n fun i j=>.int (f i j):=fun N=>hM.keep fun q hq=>qab5 (by
   rcases hq with rfl | ⟨h1,h2⟩
   · exact(List.getElem?_eq_some_iff.mp hM.top).1
   · have:=(List.getElem?_eq_some_iff.mp (hM.row (q - b) (by omega))).1;omega) (by omega)
 ((try simp);rw[qa];try simp)
 ((try simp);rw[qa];try simp)
 simp [qdr,qo]
 rw[← q5e hL]
 refine qaq (fun i Γ S'=>∃ (v4 v5 v6:Option D) (N:DL),Γ=[some (qdr ws),some (.ref lt),some (.ref l),some (.ref S.length),v4,v5,v6]∧S'=stF S lt L N∧qj7 n (fun t g=>decide (0 < f g t)) ws L N∧∀ t ∈ ws.take i,∀ g < n,0 < f g t→g ∈ ky (L++N))
   ⟨_,_,_,[],rfl,rfl,⟨by simpa using hnd,by simp [ky],by simp⟩,by simp⟩ (fun _ _ _ _=>qv) (fun i d Γ S' e h=> ?_) fun Γ S' h=> ?_
 · obtain ⟨v4,v5,v6,N,rfl,rfl,hg,hc⟩:=h
   rw[List.getElem?_map]at e
   cases e1:ws[i]? with
   | none=>rw[e1]at e;cases e
   | some t =>
     rw[e1]at e
     cases e
     have hgw:=List.mem_of_getElem? e1
     have hgn:=hw t hgw
     simp [qa,qcl,qo,qap,(hM' N).top]
     rw[qfs]
     refine qaq (fun i' Γ S'=>∃ (v5 v6:Option D) (N:DL),Γ=[some (qdr ws),some (.ref lt),some (.ref l),some (.ref S.length),some (.int t),v5,v6]∧S'=stF S lt L N∧qj7 n (fun t g=>decide (0 < f g t)) ws L N∧(∀ t ∈ ws.take i,∀ g < n,0 < f g t→g ∈ ky (L++N))∧∀ g < i',0 < f g t→g ∈ ky (L++N))
       ⟨_,_,N,rfl,rfl,hg,hc,by simp⟩ (fun i Γ S' h=>by
         obtain ⟨_,_,N,rfl,rfl,_⟩:=h
         intro p hp
         simp at hp
         subst hp
         exact(hM' N).top) (fun j d Γ S' e h=> ?_) fun Γ S' h=> ?_
     · obtain ⟨v5,v6,N,rfl,rfl,hg,hc,hc2⟩:=h
       obtain ⟨hj,rfl⟩:=qch e
       have hN:=hg.len
       simp [qa]
       rw[(hM' N).get hj hgn]
       simp
       refine qbz (fun h=> ?_) fun h=> ?_
       · rw[qw0 (q01 hlt)]
         simp
         refine qbz (fun h'=> ?_) fun h'=> ?_
         · refine⟨N,rfl,hg,hc,fun q hq r=> ?_⟩
           rcases Nat.lt_succ_iff_lt_or_eq.mp hq with z | rfl
           · exact hc2 q z r
           · exact h'
         · refine qtq hlt h' (by omega) ?_
           have more:∀ q,q ∈ ky (L++N)→q ∈ ky (L++(N++[(j,some t)])):=fun q hq=>by rw[← List.append_assoc,qa1];exact List.mem_append_left _ hq
           refine⟨_,rfl,hg.add hj hgw (decide_eq_true h) h',fun g' hg' q hq r=>more q (hc g' hg' q hq r),fun q hq r=> ?_⟩
           rcases Nat.lt_succ_iff_lt_or_eq.mp hq with z | rfl
           · exact more q (hc2 q z r)
           · rw[← List.append_assoc,qa1];simp [ky]
       · refine⟨N,rfl,hg,hc,fun q hq r=> ?_⟩
         rcases Nat.lt_succ_iff_lt_or_eq.mp hq with z | rfl
         · exact hc2 q z r
         · exact absurd r h
     · obtain ⟨v5,v6,N,rfl,rfl,hg,hc,hc2⟩:=h
       rw[qav]at hc2
       simp
       refine⟨N,rfl,hg,fun g' hg' q hq r=> ?_⟩
       rw[List.take_succ,e1]at hg'
       rcases List.mem_append.mp hg' with z | z
       · exact hc g' z q hq r
       · simp at z;subst z;exact hc2 q hq r
 · obtain ⟨v4,v5,v6,N,rfl,rfl,hg,hc⟩:=h
   rw[List.length_map,List.take_length]at hc
   simp [qa]
   exact qtr fun T=>k N T hg hc
end
theorem qj8 {R:Fl × Env→Sto→Prop} {Γ:Env} {S:Sto} {c:Env→M Bool} {body:MS} (Iv:Nat→Env→Sto→Prop) (k:Nat) (h0:Iv k Γ S)
   (step:∀ k Γ S,Iv k Γ S→Ok (c Γ S) fun b S1=>if b=true then Ok (body Γ S1) (Nxt R fun Γ2 S2=>∃ k' < k,Iv k' Γ2 S2)else R (.nx,Γ) S1):Ok (qdi c body Γ S) R:=by
 have all:∀ (j k:Nat) Γ S,k < j→Iv k Γ S→Ok (qk c body j Γ S) R:=by
   intro j
   induction j with
   | zero=>intro k Γ S h;omega
   | succ j ih =>
     intro k Γ S hm hi
     rw[qhv,qap]
     refine(step k Γ S hi).mono fun b S1 q=> ?_
     cases b with
     | false=>rw[if_neg Bool.false_ne_true]at q ⊢;exact q
     | true =>
       rw[if_pos rfl]at q ⊢
       rw[qap]
       refine q.mono fun r S2 q=> ?_
       obtain ⟨fl,Γ2⟩:=r
       cases fl with
       | nx=>obtain ⟨k',hk,q⟩:=q;exact ih k' Γ2 S2 (by omega) q
       | ct=>obtain ⟨k',hk,q⟩:=q;exact ih k' Γ2 S2 (by omega) q
       | bk=>exact q
       | rt d=>exact q
 exact qym (all (k+1) k Γ S (Nat.lt_succ_self _) h0)
structure Walk (n:Nat) (u:Nat→Int) (f:Nat→Nat→Int) (t:Nat→Nat→Bool) (ws:List Nat) (G T:DL):Prop where
 ndG:(ky G).Nodup
 ltG:∀ g ∈ ky G,g < n
 ndT:(ky T).Nodup
 ltT:∀ j ∈ ky T,j < n
 srcG:∀ p ∈ G,(p.2=none∧0 < u p.1)∨∃ j,p.2=some j∧j ∈ ky T∧0 < f p.1 j
 srcT:∀ p ∈ T,∃ g,p.2=some g∧g ∈ ky G∧t g p.1=true
 rank:∃ (a b:Nat→Nat) (B:Nat),(∀ p ∈ G,a p.1≤B∧∀ j,p.2=some j→b j < a p.1)∧∀ p ∈ T,b p.1≤B∧∀ g,p.2=some g→a g < b p.1
 sub:∀ g ∈ ws,g ∈ ky G
 goT:∀ g ∈ ky G,g ∉ ws→∀ j < n,t g j=true→j ∈ ky T
 goG:∀ j ∈ ky T,∀ g < n,0 < f g j→g ∈ ky G
 start:∀ g < n,0 < u g→g ∈ ky G
theorem qj9 {L:DL} {p:Nat × Option Nat} (h:p ∈ L):p.1 ∈ ky L:=List.mem_map.mpr ⟨p,h,rfl⟩
theorem Walk.step {n:Nat} {u:Nat→Int} {f:Nat→Nat→Int} {t:Nat→Nat→Bool} {ws:List Nat} {G T N1 N2:DL} (w:Walk n u f t ws G T) (h1:qj7 n t ws T N1) (c1:∀ g ∈ ws,∀ j < n,t g j=true→j ∈ ky (T++N1))
   (h2:qj7 n (fun j g=>decide (0 < f g j)) (ky N1) G N2) (c2:∀ j ∈ ky N1,∀ g < n,0 < f g j→g ∈ ky (G++N2)):Walk n u f t (ky N2) (G++N2) (T++N1):=by
 have inT:∀ j,j ∈ ky T→j ∈ ky (T++N1):=fun j h=>by rw[qa1];exact List.mem_append_left _ h
 have inG:∀ j,j ∈ ky G→j ∈ ky (G++N2):=fun j h=>by rw[qa1];exact List.mem_append_left _ h
 have inT':∀ j,j ∈ ky N1→j ∈ ky (T++N1):=fun j h=>by rw[qa1];exact List.mem_append_right _ h
 have inG':∀ j,j ∈ ky N2→j ∈ ky (G++N2):=fun j h=>by rw[qa1];exact List.mem_append_right _ h
 have offT:∀ j,j ∈ ky N1→j ∉ ky T:=fun j h h'=>by
   have:=h1.nd;rw[qa1,List.nodup_append]at this;exact this.2.2 j h' j h rfl
 have offG:∀ j,j ∈ ky N2→j ∉ ky G:=fun j h h'=>by
   have:=h2.nd;rw[qa1,List.nodup_append]at this;exact this.2.2 j h' j h rfl
 refine⟨h2.nd,fun g hg=> ?_,h1.nd,fun g hg=> ?_,fun p hp=> ?_,fun p hp=> ?_,?_,inG',fun g hg hn j hj r=> ?_,fun j hj g hg r=> ?_,fun g hg r=>inG g (w.start g hg r)⟩
 · rw[qa1]at hg;rcases List.mem_append.mp hg with z | z
   · exact w.ltG g z
   · exact h2.lt g z
 · rw[qa1]at hg;rcases List.mem_append.mp hg with z | z
   · exact w.ltT g z
   · exact h1.lt g z
 · rcases List.mem_append.mp hp with z | z
   · rcases w.srcG p z with q | ⟨j,q1,q2,q3⟩
     · exact .inl q
     · exact .inr ⟨j,q1,inT j q2,q3⟩
   · obtain ⟨j,q1,q2,q3⟩:=h2.from_ p z
     exact .inr ⟨j,q2,inT' j q1,of_decide_eq_true q3⟩
 · rcases List.mem_append.mp hp with z | z
   · obtain ⟨g,q1,q2,q3⟩:=w.srcT p z
     exact⟨g,q1,inG g q2,q3⟩
   · obtain ⟨j,q1,q2,q3⟩:=h1.from_ p z
     exact⟨j,q2,inG j (w.sub j q1),q3⟩
 · obtain ⟨a,b,B,q1,q2⟩:=w.rank
   refine⟨fun g=>if g ∈ ky N2 then B+2 else a g,fun j=>if j ∈ ky N1 then B+1 else b j,B+2,fun p hp=> ?_,fun p hp=> ?_⟩
   · rcases List.mem_append.mp hp with z | z
     · have e:p.1 ∉ ky N2:=fun h=>offG _ h (qj9 z)
       simp only [if_neg e]
       refine⟨by have:=(q1 p z).1;omega,fun j hj=> ?_⟩
       have:j ∉ ky N1:=fun h=>by
         rcases w.srcG p z with ⟨q,_⟩ | ⟨j',q,q',_⟩
         · rw[q]at hj;cases hj
         · rw[q]at hj;cases hj;exact offT _ h q'
       simp only [if_neg this]
       exact(q1 p z).2 j hj
     · have e:p.1 ∈ ky N2:=qj9 z
       simp only [if_pos e]
       refine⟨Nat.le_refl _,fun j hj=> ?_⟩
       obtain ⟨j',r1,r2,_⟩:=h2.from_ p z
       rw[hj]at r2;cases r2
       simp only [if_pos r1]
       omega
   · rcases List.mem_append.mp hp with z | z
     · have e:p.1 ∉ ky N1:=fun h=>offT _ h (qj9 z)
       simp only [if_neg e]
       refine⟨by have:=(q2 p z).1;omega,fun j hj=> ?_⟩
       obtain ⟨g,r1,r2,_⟩:=w.srcT p z
       rw[hj]at r1;cases r1
       have:j ∉ ky N2:=fun h=>offG _ h r2
       simp only [if_neg this]
       exact(q2 p z).2 j hj
     · have e:p.1 ∈ ky N1:=qj9 z
       simp only [if_pos e]
       refine⟨by omega,fun j hj=> ?_⟩
       obtain ⟨g,r1,r2,_⟩:=h1.from_ p z
       rw[hj]at r2;cases r2
       have:j ∉ ky N2:=fun h=>offG _ h (w.sub j r1)
       simp only [if_neg this]
       obtain ⟨p',hp',e'⟩:=List.mem_map.mp (w.sub j r1)
       have:=(q1 p' hp').1
       rw[e']at this
       omega
 · rw[qa1]at hg;rcases List.mem_append.mp hg with z | z
   · by_cases hw:g ∈ ws
     · exact c1 g hw j hj r
     · exact inT j (w.goT g z hw j hj r)
   · exact absurd z hn
 · rw[qa1]at hj;rcases List.mem_append.mp hj with z | z
   · exact inG g (w.goG j z g hg r)
   · exact c2 j z g hg r
theorem q02 {L:DL}:(dks L).map qhs=(ky L).map fun w:Nat=>D.int (w:Int):=by simp [dks,ky,qhs,Function.comp_def]
theorem q4a {L:DL} {S:Sto} {l:Nat} (h:S[l]? =some (qas L)):biF (.keys false) [.ref l] S=.ok (qdr (ky L)) S:=by
 show qfl false [.ref l] S=_
 unfold qfl
 dsimp only
 rw[qhu h]
 dsimp only
 rw[q02]
 rfl
theorem qw1 {S:Sto} {l:Nat} {L:DL} (h:S[l]? =some (qas L)):qd8 (.ref l) S=.ok (qck L) (S.set l .gone):=by
 have st:∀ o,Still (qft o):=fun o=>by cases o with
   | none=>exact fun n S=>by cases n <;> simp [frz,qft]
   | some g=>exact qc9
 have all:∀ (xs:List D) (S:Sto),(∀ d ∈ xs,Still d)→frzs 2 xs S=some (xs,S):=by
   intro xs
   induction xs with
   | nil=>intro S _;simp [frzs]
   | cons d ds ih =>
     intro S hs
     rw[frzs,hs d (by simp) 2 S]
     dsimp only
     rw[ih S fun x hx=>hs x (by simp [hx])]
 unfold qd8
 have:frz 3 (.ref l) S=some (qck L,S.set l .gone):=by
   have h':S[l]? =some (.dct (dks L) (dvs L)):=h
   simp [frz,h',all (dvs L) S fun d hd=>by obtain ⟨p,_,rfl⟩:=List.mem_map.mp hd;exact st _,qck]
 rw[this]
theorem q03 {L:DL} {t:Nat} {o:Option Nat} (hn:t ∉ ky L):qbl (dks L) (.inl (t:Int))=dks (L++[(t,o)])∧qaz (dks L) (dvs L) (.inl (t:Int)) (qft o)=dvs (L++[(t,o)]):=by
 have hk:qe6 (dks L) (.inl (t:Int))=false:=by rw[qq7];simpa using hn
 constructor
 · simp only [qbl,hk];simp [dks]
 · simp only [qaz,hk];simp [dvs]
theorem qvg {n l b lu:Nat} {S:Sto} {u:Nat→Int} {f:Nat→Nat→Int} {t:Nat→Nat→Bool} {P:D→Sto→Prop} (hn:n≤100) (hU:S[lu]? =some (.lst (vec n fun i=>.int (u i)))) (hM:Mat S l b n n fun i j=>.int (f i j))
   (k:∀ G T X,Walk n u f t [] G T→P (.tup [qck G,qck T]) (S++X)):Ok (qeb [.ref l,.ref lu,qod n t] S) P:=by
 refine Ok.run ?_
 unfold qjf
 ((try simp);rw[qa];try simp)
 simp [qcl,qo,hU,qap]
 rw[qfs]
 refine⟨qz (by rw[qav];omega),?_⟩
 refine q84 (fun i ks xs S'=>∃ L:DL,ks=dks L∧xs=dvs L∧S'=S∧(ky L).Nodup∧(∀ g ∈ ky L,g < i)∧(∀ p ∈ L,p.2=none∧0 < u p.1)∧∀ g < i,0 < u g→g ∈ ky L) ⟨[],rfl,rfl,rfl,by simp [ky],by simp [ky],by simp,by simp⟩ (fun i a b S' h=>by
     obtain ⟨_,_,_,rfl,_⟩:=h
     intro p hp
     simp at hp
     subst hp
     exact hU) (fun i d ks xs S' e h=> ?_) fun ks xs S' h=> ?_
 · obtain ⟨L,rfl,rfl,rfl,h1,h2,h3,h4⟩:=h
   obtain ⟨hi,rfl⟩:=qch e
   have hni:i ∉ ky L:=fun z=>by have:=h2 i z;omega
   simp
   refine qbz (fun h=> ?_) fun h=> ?_
   · refine⟨_,rfl,L++[(i,none)],(q03 hni).1,(q03 (o:=none) hni).2,?_,fun g hg=> ?_,fun a b hp=> ?_,fun g hg r=> ?_⟩
     · rw[qa1,List.nodup_append]
       exact⟨h1,by simp [ky],fun a ha b hb=>by simp [ky]at hb;subst hb;rintro rfl;exact hni ha⟩
     · rw[qa1]at hg
       rcases List.mem_append.mp hg with z | z
       · have:=h2 g z;omega
       · simp [ky]at z;omega
     · rcases List.mem_append.mp hp with z | z
       · exact h3 _ z
       · simp at z;obtain ⟨rfl,rfl⟩:=z;exact⟨rfl,h⟩
     · rw[qa1]
       rcases Nat.lt_succ_iff_lt_or_eq.mp hg with z | rfl
       · exact List.mem_append_left _ (h4 g z r)
       · exact List.mem_append_right _ (by simp [ky])
   · refine⟨L,rfl,rfl,h1,fun g hg=>by have:=h2 g hg;omega,fun a b hp=>h3 (a,b) hp,fun g hg r=> ?_⟩
     rcases Nat.lt_succ_iff_lt_or_eq.mp hg with z | rfl
     · exact h4 g z r
     · exact absurd r h
 · obtain ⟨L,rfl,rfl,rfl,h1,h2,h3,h4⟩:=h
   rw[qav]at h2 h4
   ((try simp);rw[qa];try simp)
   ((try simp);rw[qa];try simp)
   have e0:(S'++[qas L,qas []])[S'.length]? =some (qas L):=by rw[List.getElem?_append_right (Nat.le_refl _)];simp
   have e1:(S'++[qas L,qas []])[S'.length+1]? =some (qas []):=by rw[List.getElem?_append_right (by omega)];simp
   change Ok (biF (Bi.keys false) [D.ref S'.length] (S'++[qas L,qas []])) _
   rw[q4a e0]
   ((try simp);rw[qa];try simp)
   have w0:Walk n u f t (ky L) L []:=⟨h1,h2,by simp [ky],by simp [ky],fun p hp=>.inl (h3 p hp),by simp,⟨fun _=>0,fun _=>0,0,fun p hp=>⟨Nat.le_refl _,fun j hj=>by rw[(h3 p hp).1]at hj;cases hj⟩,by simp⟩,fun g hg=>hg,fun g hg hn=>absurd hg hn,by simp [ky],h4⟩
   refine qj8 (fun κ Γ S2=>∃ (ws:List Nat) (G T:DL) (v:Option D),Γ=[some (.ref l),some (.ref lu),some (qod n t),some (.ref S'.length),some (.ref (S'.length+1)),some (qdr ws),v]∧S2[S'.length]? =some (qas G)∧S2[S'.length+1]? =some (qas T)∧(∀ q < S'.length,S2[q]? =S'[q]?)∧Walk n u f t ws G T∧κ=2 * (n - G.length)+if ws=[]then 0 else 1) _
     ⟨ky L,L,[],_,rfl,e0,e1,fun q hq=>List.getElem?_append_left hq,w0,rfl⟩ fun κ Γ S2 h=> ?_
   obtain ⟨ws,G,T,v,rfl,g1,g2,g3,w,rfl⟩:=h
   have lenG:G.length≤n:=by have:=qct w.ndG w.ltG;simpa [ky]using this
   have lenT:T.length≤n:=by have:=qct w.ndT w.ltT;simpa [ky]using this
   have q1:=(List.getElem?_eq_some_iff.mp g1).1
   have q2:=(List.getElem?_eq_some_iff.mp g2).1
   cases ws with
   | nil =>
     simp [qdr,qi1,qa]
     rw[qw1 g1]
     simp
     rw[qw1 (L:=T) (by rw[List.getElem?_set_ne (by omega)];exact g2)]
     simp [qey]
     obtain ⟨X,e⟩:=qvf (S:=S') (S':=(S2.set S'.length .gone).set (S'.length+1) .gone) (by simp;omega) fun q hq=>by
       rw[List.getElem?_set_ne (by omega),List.getElem?_set_ne (by omega)];exact g3 q hq
     rw[e]
     exact k G T X w
   | cons a ws =>
     generalize hws:a::ws=ws' at *
     have hne:ws' ≠ []:=by rw[← hws];simp
     have htr:qi1 (qdr ws')=M.pure true:=by rw[← hws];rfl
     simp [htr]
     ((try simp);rw[qa];try simp)
     refine qoe hn g2 lenT w.ndT (fun g hg=>w.ltG g (w.sub g hg)) fun N1 X1 gr1 c1=> ?_
     generalize hS3:S2.set (S'.length+1) (qas (T++N1))++[X1]=S3
     have l3:S3.length=S2.length+1:=by rw[← hS3];simp
     have o3:∀ q,q < S2.length→q ≠ S'.length+1→S3[q]? =S2[q]? :=fun q h1 h2=>by
       rw[← hS3,List.getElem?_append_left (by simpa using h1),List.getElem?_set_ne (Ne.symm h2)]
     have t3:S3[S'.length+1]? =some (qas (T++N1)):=by
       rw[← hS3,List.getElem?_append_left (by simpa using q2),List.getElem?_set,if_pos rfl,if_pos q2]
     have ml:=(List.getElem?_eq_some_iff.mp hM.top).1
     have mr:∀ i < n,b+i < S'.length:=fun i hi=>(List.getElem?_eq_some_iff.mp (hM.row i hi)).1
     have lM:b+n≤S'.length∨n=0:=by
       by_cases z:n=0
       · exact .inr z
       · have:=mr (n - 1) (by omega);exact .inl (by omega)
     have M3:Mat S3 l b n n fun i j=>.int (f i j):=hM.keep fun q hq=>by
       have hq':q < S'.length:=by rcases hq with rfl | hq;exact ml;omega
       rw[o3 q (by omega) (by omega),g3 q hq']
     ((try simp);rw[qa];try simp)
     refine qof (L:=G) hn (by rw[o3 _ (by omega) (by omega)];exact g1) M3 ⟨by omega,by omega⟩ lenG w.ndG gr1.lt fun N2 X2 gr2 c2=> ?_
     have w':=w.step gr1 c1 gr2 c2
     have lenG':(G++N2).length≤n:=by have:=qct w'.ndG w'.ltG;simpa [ky]using this
     refine⟨_,?_,ky N2,rfl,G++N2,?_,T++N1,?_,fun q hq=> ?_,w',rfl⟩
     · simp at lenG'
       simp [hne]
       cases N2 with
       | nil=>simp [ky]
       | cons p N2=>simp [ky]at lenG' ⊢;omega
     · rw[List.getElem?_append_left (by simp;omega),List.getElem?_set,if_pos rfl,if_pos (by omega)]
     · rw[List.getElem?_append_left (by simp;omega),List.getElem?_set_ne (by omega)];exact t3
     · rw[List.getElem?_append_left (by simp;omega),List.getElem?_set_ne (by omega),o3 q (by omega) (by omega)];exact g3 q hq
theorem q5f:∀ {L:DL} {j:Nat},j ∈ ky L→∃ o,(j,o) ∈ L∧qfh (dks L) (dvs L) (.inl (j:Int))=some (qft o)
 | [],j,h=>by simp [ky]at h
 | (i,o)::L,j,h=>by
   by_cases e:i=j
   · subst e;exact⟨o,by simp,by simp [dks,dvs,qfh]⟩
   · have:j ∈ ky L:=by simp [ky]at h ⊢;rcases h with h | h;exact absurd h.symm e;exact h
     obtain ⟨o',h1,h2⟩:=q5f this
     refine⟨o',by simp [h1],?_⟩
     have ne:¬ (Sum.inl (i:Int):Key)=.inl (j:Int):=fun z=>e (by have:=Sum.inl.inj z;omega)
     simpa [dks,dvs,qfh,ne]using h2
theorem ix_t {L:DL} {j:Nat} (h:j ∈ ky L):∃ o,(j,o) ∈ L∧∀ S,ixM (qck L) (.int j) S=.ok (qft o) S:=by
 obtain ⟨o,h1,h2⟩:=q5f h
 refine⟨o,h1,fun S=> ?_⟩
 show ixM (.dct (dks L) (dvs L)) (.int j) S=_
 unfold ixM
 simp only [keyOf,h2]
 rfl
theorem qq8 {L:DL} {S:Sto}:look (qck L) S=qck L:=rfl
theorem q04 {n lr:Nat} {S:Sto} {r:Nat→Int} {T:DL} {P:D→Sto→Prop} (hR:S[lr]? =some (.lst (vec n fun i=>.int (r i)))) (hT:∀ j ∈ ky T,j < n) (k1:∀ j ∈ ky T,0 < r j→P (.int j) S) (k2:(∀ j ∈ ky T,r j≤0)→P .non S):Ok (qar [qck T,.ref lr] S) P:=by
 refine Ok.run ?_
 unfold qb5
 ((try simp);rw[qa];try simp)
 simp [qem,qck,q02]
 refine qaq (fun i Γ S'=>∃ v:Option D,Γ=[some (qck T),some (.ref lr),v]∧S'=S∧∀ j ∈ (ky T).take i,r j≤0) ⟨_,rfl,rfl,by simp⟩ (fun _ _ _ _=>qv) (fun i d Γ S' e h=> ?_) fun Γ S' h=> ?_
 · obtain ⟨v,rfl,rfl,h⟩:=h
   rw[List.getElem?_map]at e
   cases e1:(ky T)[i]? with
   | none=>rw[e1]at e;cases e
   | some j =>
     rw[e1]at e
     cases e
     have hj:=List.mem_of_getElem? e1
     simp [qa,qh hR,qbk (hT j hj)]
     refine qbz (fun h'=>k1 j hj h') fun h'=> ?_
     intro q hq
     rw[List.take_succ,e1]at hq
     rcases List.mem_append.mp hq with z | z
     · exact h q z
     · simp at z;subst z;omega
 · obtain ⟨v,rfl,rfl,h⟩:=h
   rw[List.length_map,List.take_length]at h
   simp [qa]
   exact k2 h
noncomputable abbrev Stp:=Nat × Nat × Option Nat
noncomputable def qfu (p:Stp):D:=.tup [.int p.1,.int p.2.1,qft p.2.2]
inductive Path (G T:DL):Nat→List Stp→Option Nat→Prop
 | nil {e:Nat}:Path G T e [] (some e)
 | snoc {e g j:Nat} {o:Option Nat} {ps:List Stp}:Path G T e ps (some j)→(j,some g) ∈ T→(g,o) ∈ G→Path G T e (ps++[(g,j,o)]) o
theorem q4b {n:Nat} {S:Sto} {u:Nat→Int} {f:Nat→Nat→Int} {t:Nat→Nat→Bool} {G T:DL} {e:Nat} {P:D→Sto→Prop} (hn:n≤100) (w:Walk n u f t [] G T) (he:e ∈ ky T)
   (k:∀ ps X,Path G T e ps none→(ps.map (·.1)).Nodup→P (.lst (ps.map qfu)) (S++[X])):Ok (qec [.int e,qck G,qck T] S) P:=by
 refine Ok.run ?_
 unfold qjg
 ((try simp);rw[qa];try simp)
 ((try simp);rw[qa];try simp)
 ((try simp);rw[qa];try simp)
 obtain ⟨a,b,B,r1,r2⟩:=w.rank
 obtain ⟨J,hJ⟩:∃ J:Nat→Env→Sto→Prop,∀ κ Γ S',J κ Γ S'↔∃ (o:Option Nat) (ps:List Stp) (v:Option D),Γ=[some (.int e),some (qck G),some (qck T),some (.ref S.length),some (qft o),v]∧S'=S++[.lst (ps.map qfu)]∧Path G T e ps o∧(ps.map (·.1)).Nodup∧(∀ j,o=some j→j ∈ ky T∧∀ p ∈ ps,b j < a p.1)∧(∀ p ∈ ps,p.1 < n)∧κ=(match o with | none=>0 | some j=>b j+1):=⟨_,fun _ _ _=>Iff.rfl⟩
 refine qj8 J _ ((hJ _ _ _).mpr ⟨some e,[],_,rfl,rfl,.nil,by simp,fun j hj=>by cases hj;exact⟨he,by simp⟩,by simp,rfl⟩) fun κ Γ S' h=> ?_
 obtain ⟨o,ps,v,rfl,rfl,h1,h2,h3,h4,rfl⟩:=(hJ _ _ _).mp h
 have hlen:ps.length≤n:=by have:=qct h2 (by simpa using h4);simpa using this
 cases o with
 | none =>
   simp [qft,qa]
   rw[qh9 (xs:=ps.map qfu) (by simp) (fun d hd=>by obtain ⟨p,_,rfl⟩:=List.mem_map.mp hd;exact qpm)]
   simp
   exact k ps .gone h1 h2
 | some j =>
   obtain ⟨hj,hlt⟩:=h3 j rfl
   obtain ⟨og,ho,eo⟩:=ix_t hj
   obtain ⟨g,eg,hg,htg⟩:=w.srcT _ ho
   simp at eg
   subst eg
   obtain ⟨ob,hb,eb⟩:=ix_t hg
   simp only [qft]at eo
   simp only [qft]
   simp
   ((try simp);rw[qa];try simp)
   rw[qq8,eo]
   ((try simp);rw[qa];try simp)
   rw[qq8,eb]
   simp [qby]
   rw[qhc (xs:=ps.map qfu) (by simp) (by simp;omega)]
   ((try simp);rw[qa];try simp)
   rw[qq8,eb]
   simp
   have lg:∀ p ∈ ps,a g < a p.1:=fun p hp=>Nat.lt_trans ((r2 _ ho).2 g rfl) (hlt p hp)
   have hgn:g < n:=w.ltG g hg
   refine⟨_,?_,(hJ _ _ _).mpr ⟨ob,ps++[(g,j,ob)],_,rfl,by simp [qfu,qft],.snoc h1 ho hb,?_,fun j' hj'=> ?_,fun p hp=> ?_,rfl⟩⟩
   · cases ob with
     | none=>simp
     | some j' =>
       have x1:=(r1 _ hb).2 j' rfl
       have x2:=(r2 _ ho).2 g rfl
       simp at x1 x2 ⊢
       omega
   · rw[List.map_append,List.nodup_append]
     refine⟨h2,by simp,fun x hx y hy=> ?_⟩
     simp at hy
     subst hy
     rintro rfl
     obtain ⟨p,hp,e1⟩:=List.mem_map.mp hx
     have:=lg p hp
     rw[e1]at this
     omega
   · subst hj'
     have x1:=(r1 _ hb).2 j' rfl
     refine⟨?_,fun p hp=> ?_⟩
     · rcases w.srcG _ hb with ⟨z,_⟩ | ⟨j2,z,z2,_⟩
       · cases z
       · cases z;exact z2
     · rcases List.mem_append.mp hp with z | z
       · have:=lg p z;simp at x1;omega
       · rw[List.mem_singleton.mp z];exact x1
   · rcases List.mem_append.mp hp with z | z
     · exact h4 p z
     · rw[List.mem_singleton.mp z];exact hgn
noncomputable def sm:Nat→(Nat→Int)→Int
 | 0,_=>0
 | n+1,g=>sm n g+g n
theorem qbu {g h:Nat→Int}:∀ {n:Nat},(∀ i < n,g i=h i)→sm n g=sm n h
 | 0,_=>rfl
 | n+1,e=>by rw[sm,sm,qbu fun i hi=>e i (by omega),e n (by omega)]
theorem qds {g h:Nat→Int}:∀ {n:Nat},sm n (fun i=>g i+h i)=sm n g+sm n h
 | 0=>rfl
 | n+1=>by rw[sm,sm,sm,qds];omega
theorem qq9 {i:Nat} {c:Int}:∀ {n:Nat},sm n (fun k=>if k=i then c else 0)=if i < n then c else 0
 | 0=>rfl
 | n +1=>by
   rw[sm,qq9]
   by_cases h:n=i
   · subst h;simp
   · by_cases h':i < n
     · rw[if_pos h',if_neg h,if_pos (by omega)];omega
     · rw[if_neg h',if_neg h,if_neg (by omega)];rfl
theorem qpo {g:Nat→Int}:∀ {n:Nat},(∀ i < n,0≤g i)→0≤sm n g
 | 0,_=>Int.le_refl _
 | n+1,h=>by
   rw[sm]
   have:=qpo fun i (hi:i < n)=>h i (by omega)
   have:=h n (by omega)
   omega
theorem q05 {g:Nat→Int} {n i:Nat} {c:Int} (hi:i < n):sm n (fun k=>g k+if k=i then c else 0)=sm n g+c:=by
 rw[qds,qq9,if_pos hi]
section
variable {G T:DL} {e:Nat}
noncomputable def qk1 (e:Nat) (ps:List Stp):Option Nat:=match ps.getLast? with
 | none=>some e
 | some p=>p.2.2
theorem Path.cur {ps:List Stp} {o:Option Nat} (h:Path G T e ps o):qk1 e ps=o:=by
 cases h with
 | nil=>rfl
 | snoc _ _ _=>simp [qk1]
theorem snoc_cases {α:Type} (ys:List α):ys=[]∨∃ zs z,ys=zs++[z]:=by
 rcases List.eq_nil_or_concat ys with h | ⟨zs,z,h⟩
 · exact .inl h
 · exact .inr ⟨zs,z,by simpa using h⟩
theorem Path.split {ps:List Stp} {o:Option Nat} (h:Path G T e ps o):∀ {xs ys:List Stp} {p:Stp},ps=xs++p::ys→Path G T e xs (some p.2.1)∧(p.2.1,some p.1) ∈ T∧(p.1,p.2.2) ∈ G:=by
 induction h with
 | nil=>intro xs ys p z;simp at z
 | @snoc g j o' qs h' ht hg ih =>
   intro xs ys p z
   rcases snoc_cases ys with rfl | ⟨zs,y,rfl⟩
   · obtain ⟨rfl,z2⟩:=List.append_inj' z rfl
     simp at z2
     subst z2
     exact⟨h',ht,hg⟩
   · rw[show xs++p::(zs++[y])=(xs++p::zs)++[y]by simp]at z
     obtain ⟨z1,_⟩:=List.append_inj' z rfl
     exact ih z1
theorem Path.at_ {ps:List Stp} {o:Option Nat} (h:Path G T e ps o) {i:Nat} {p:Stp} (hp:ps[i]? =some p):qk1 e (ps.take i)=some p.2.1∧(p.2.1,some p.1) ∈ T∧(p.1,p.2.2) ∈ G∧qk1 e (ps.take (i+1))=p.2.2:=by
 obtain ⟨hi,rfl⟩:=List.getElem?_eq_some_iff.mp hp
 have:=h.split (xs:=ps.take i) (ys:=ps.drop (i+1)) (p:=ps[i]) (by rw[← List.drop_eq_getElem_cons hi,List.take_append_drop])
 refine⟨this.1.cur,this.2.1,this.2.2,?_⟩
 have e2:ps.take (i+1)=ps.take i++[ps[i]]:=by rw[List.take_succ,hp];rfl
 rw[e2]
 simp only [qk1,List.getLast?_concat]
end
structure Net (S:Sto) (l b lu lr n:Nat) (f:Nat→Nat→Int) (u r:Nat→Int):Prop where
 mat:Mat S l b n n fun i j=>.int (f i j)
 un:S[lu]? =some (.lst (vec n fun i=>.int (u i)))
 ro:S[lr]? =some (.lst (vec n fun i=>.int (r i)))
 ne:lu ≠ lr∧lu ≠ l∧lr ≠ l∧(lu < b∨b+n≤lu)∧(lr < b∨b+n≤lr)
structure Sent (n:Nat) (t:Nat→Nat→Bool) (f f':Nat→Nat→Int) (s e:Nat) (m:Int):Prop where
 pos:∀ i < n,∀ j < n,0≤f' i j
 tie:∀ i < n,∀ j < n,f' i j ≠ 0→t i j=true
 row:∀ i < n,sm n (f' i)=sm n (f i)+if i=s then m else 0
 col:∀ j < n,sm n (fun i=>f' i j)=sm n (fun i=>f i j)+if j=e then m else 0
theorem q06 {α:Type} {xs:List α} {x:α}:atI (xs++[x]) (-1)=some x:=by
 unfold atI ixN
 simp
 rw[if_pos (by omega)]
 simp
 rw[show ((-1+((xs.length:Int)+1)).toNat)=xs.length by omega]
 simp
theorem q4c {S:Sto} {xs ys:List D} (h:xs.length+ys.length≤1000):qgn false .Add (.lst xs) (.lst ys) S=.ok (.lst (xs++ys)) S:=by
 simp only [qgn,seen,qxy,look]
 rw[if_pos (qby h)]
 rfl
theorem q07 {S:Sto} {ns:List Int} (h:ns ≠ []):biF .min [.lst (ns.map D.int)] S=.ok (.int (qgb ns)) S:=by
 show minD [D.lst (ns.map D.int)] S=_
 unfold minD
 simp only [look,qfq]
 have:ns.isEmpty=false:=by cases ns <;> first | exact absurd rfl h | rfl
 simp [this]
@[simp] theorem neg_int {i:Int} {S:Sto}:qu4 (.int i) S=.ok (.int (-i)) S:=(rfl)
noncomputable def bump (f:Nat→Nat→Int) (g j:Nat) (c:Int):Nat→Nat→Int:=fun a b=>f a b+if a=g∧b=j then c else 0
theorem qna {f:Nat→Nat→Int} {n g j a:Nat} {c:Int} (hj:j < n):sm n (bump f g j c a)=sm n (f a)+if a=g then c else 0:=by
 by_cases h:a=g
 · subst h
   rw[if_pos rfl,← q05 hj]
   exact qbu fun i _=>by simp [bump]
 · rw[if_neg h,Int.add_zero]
   exact qbu fun i _=>by simp [bump,h]
theorem qnb {f:Nat→Nat→Int} {n g j a:Nat} {c:Int} (hg:g < n):sm n (fun i=>bump f g j c i a)=sm n (fun i=>f i a)+if a=j then c else 0:=by
 by_cases h:a=j
 · subst h
   rw[if_pos rfl,← q05 hg]
   exact qbu fun i _=>by simp [bump]
 · rw[if_neg h,Int.add_zero]
   exact qbu fun i _=>by simp [bump,h]
theorem Mat.bump {S:Sto} {l b n:Nat} {f:Nat→Nat→Int} (h:Mat S l b n n fun i j=>.int (f i j)) {g j:Nat} {c v:Int} (hg:g < n) (hv:v=f g j+c):Mat (S.set (b+g) (.lst ((vec n fun j=>.int (f g j)).set j (.int v)))) l b n n fun i j'=>.int (T3.bump f g j c i j'):=by
 refine(h.set (j:=j) hg (.int v)).cong fun a a' _ _=> ?_
 by_cases e:a=g∧a'=j
 · obtain ⟨rfl,rfl⟩:=e;simp [T3.bump,hv]
 · simp [T3.bump,e]
noncomputable def qhd (f:Nat→Nat→Int) (p:Stp):Option Int:=p.2.2.map fun b=>f p.1 b
theorem q4d {n l b lu lr:Nat} {S:Sto} {u r:Nat→Int} {f:Nat→Nat→Int} {t:Nat→Nat→Bool} {G T:DL} {e:Nat} {ps:List Stp} {P:D→Sto→Prop} (hn:n≤100) (w:Walk n u f t [] G T) (hN:Net S l b lu lr n f u r) (he:0 < r e) (hp:Path G T e ps none) (nd:(ps.map (·.1)).Nodup) (f0:∀ i < n,∀ j < n,0≤f i j) (ft:∀ i < n,∀ j < n,f i j ≠ 0→t i j=true)
   (k:∀ m s f' S',0 < m→s < n→e < n→m≤r e→m≤u s→Sent n t f f' s e m→Net S' l b lu lr n f' (fun i=>u i - if i=s then m else 0) (fun i=>r i - if i=e then m else 0)→S'.length=S.length→(∀ q,q ≠ l→q ≠ lu→q ≠ lr→(q < b∨b+n≤q)→S'[q]? =S[q]?)→P .non S'):Ok (qb6 [.lst (ps.map qfu),.ref l,.ref lu,.ref lr] S) P:=by
 refine Ok.run ?_
 unfold qeq
 have ne:ps ≠ []:=by
   rintro rfl
   have:=hp.cur
   simp [qk1]at this
 obtain ⟨qs,z,hz⟩:∃ qs z,ps=qs++[z]:=by rcases snoc_cases ps with h | h;exact absurd h ne;exact h
 have hlast:z.2.2=none:=by have:=hp.cur;rw[hz]at this;simpa [qk1]using this
 have hz':ps[qs.length]? =some z:=by rw[hz];simp
 obtain ⟨_,hzT,hzG,_⟩:=hp.at_ hz'
 obtain ⟨h0,hh0⟩:∃ h0,ps[0]? =some h0:=⟨ps[0]'(by cases ps;exact absurd rfl ne;simp),List.getElem?_eq_getElem _⟩
 have hh1:h0.2.1=e:=by have:=(hp.at_ hh0).1;simp [qk1]at this;exact this.symm
 have inG:∀ p ∈ ps,p.1 < n:=fun p hp'=>by
   obtain ⟨i,hi⟩:=List.getElem?_of_mem hp'
   exact w.ltG _ (qj9 (hp.at_ hi).2.2.1)
 have inT:∀ p ∈ ps,p.2.1 < n:=fun p hp'=>by
   obtain ⟨i,hi⟩:=List.getElem?_of_mem hp'
   exact w.ltT _ (qj9 (p:=(p.2.1,some p.1)) (hp.at_ hi).2.1)
 have bk:∀ p ∈ ps,∀ j,p.2.2=some j→j < n∧0 < f p.1 j:=fun p hp' j hj=>by
   obtain ⟨i,hi⟩:=List.getElem?_of_mem hp'
   rcases w.srcG _ (hp.at_ hi).2.2.1 with ⟨q,_⟩ | ⟨j',q1,q2,q3⟩
   · simp at q;rw[q]at hj;cases hj
   · simp at q1;rw[q1]at hj;cases hj;exact⟨w.ltT _ q2,q3⟩
 have hs:0 < u z.1:=by
   rcases w.srcG _ hzG with ⟨_,q⟩ | ⟨j',q1,_⟩
   · exact q
   · rw[hlast]at q1;cases q1
 have hzm:z ∈ ps:=List.mem_of_getElem? hz'
 have sn:=inG z hzm
 have en:e < n:=hh1 ▸ inT h0 (List.mem_of_getElem? hh0)
 have hlen:ps.length≤n:=by have:=qct nd (by simpa using fun x y o h=>inG (x,y,o) h);simpa using this
 have a0:atI (ps.map qfu) 0=some (qfu h0):=by
   have:atI (ps.map qfu) ((0:Nat):Int)=some (qfu h0):=qfy (by rw[List.getElem?_map,hh0];rfl)
   simpa using this
 have a1:atI (ps.map qfu) (-1)=some (qfu z):=by rw[hz,List.map_append];exact q06
 ((try simp);rw[qa];try simp)
 simp [a0,qfu,hh1]
 ((try simp);rw[qa];try simp)
 simp [a1,qfu]
 ((try simp);rw[qa];try simp)
 simp [qo]
 refine⟨qz (by omega),qqq (fun i a S'=>S'=S∧a=((ps.take i).filterMap (qhd f)).map D.int) ⟨rfl,by simp⟩ (fun _ _ _ _=>qv) (fun i d a S' e1 h=> ?_) fun a S' h=> ?_⟩
 · obtain ⟨rfl,rfl⟩:=h
   rw[List.getElem?_map]at e1
   cases e2:ps[i]? with
   | none=>rw[e2]at e1;cases e1
   | some p =>
     rw[e2]at e1
     cases e1
     have ht:ps.take (i+1)=ps.take i++[p]:=by rw[List.take_succ,e2];rfl
     have hpm:=List.mem_of_getElem? e2
     simp [qfu]
     cases e3:p.2.2 with
     | none=>simp [qft,ht,qhd,e3]
     | some j =>
       obtain ⟨hj,_⟩:=bk p hpm j e3
       simp [qft,hN.mat.ix (inG p hpm),hN.mat.get (inG p hpm) hj]
       rw[ht]
       simp [qhd,e3]
 · obtain ⟨rfl,rfl⟩:=h
   rw[List.length_map,List.take_length]
   have hbl:(ps.filterMap (qhd f)).length≤100:=Nat.le_trans (List.length_filterMap_le _ _) (by omega)
   ((try simp);rw[qa];try simp)
   simp [qh hN.ro,qh hN.un,qbk en,qbk sn,qhb]
   rw[q4c (by simp;omega)]
   have hmin:=q07 (S:=S') (ns:=r e::u z.1::ps.filterMap (qhd f)) (by simp)
   simp at hmin
   simp [hmin]
   obtain ⟨mm1,mm2⟩:=ql0 (ns:=r e::u z.1::ps.filterMap (qhd f)) (by simp)
   have m0:0 < qgb (r e::u z.1::ps.filterMap (qhd f)):=by
     rcases List.mem_cons.mp mm1 with h | h
     · omega
     · rcases List.mem_cons.mp h with h | h
       · omega
       · obtain ⟨p,hp1,hp2⟩:=List.mem_filterMap.mp h
         have hp3:(p.2.2.map fun b=>f p.1 b)=some (qgb (r e::u z.1::ps.filterMap (qhd f))):=hp2
         cases e3:p.2.2 with
         | none=>rw[e3]at hp3;cases hp3
         | some j=>rw[e3]at hp3;have:=(bk p hp1 j e3).2;have:f p.1 j=qgb (r e::u z.1::ps.filterMap (qhd f)):=Option.some.inj hp3;omega
   have mr:qgb (r e::u z.1::ps.filterMap (qhd f))≤r e:=mm2 _ (by simp)
   have mu:qgb (r e::u z.1::ps.filterMap (qhd f))≤u z.1:=mm2 _ (by simp)
   have mb:∀ p ∈ ps,∀ j,p.2.2=some j→qgb (r e::u z.1::ps.filterMap (qhd f))≤f p.1 j:=fun p hp' j hj=>mm2 _ (by
     refine List.mem_cons_of_mem _ (List.mem_cons_of_mem _ (List.mem_filterMap.mpr ⟨p,hp',?_⟩))
     simp [qhd,hj])
   generalize qgb (r e::u z.1::ps.filterMap (qhd f))=m at *
   ((try simp);rw[qa];try simp)
   simp [qo]
   obtain ⟨J,hJ⟩:∃ J:Nat→Env→Sto→Prop,∀ i Γ S1,J i Γ S1↔∃ (v8 v9 v10:Option D) (f':Nat→Nat→Int),Γ=[some (.lst (ps.map qfu)),some (.ref l),some (.ref lu),some (.ref lr),some (.int e),some (.int z.1),some (.lst ((ps.filterMap (qhd f)).map D.int)),some (.int m),v8,v9,v10]∧Mat S1 l b n n (fun i j=>.int (f' i j))∧S1.length=S'.length∧(∀ q,(q < b∨b+n≤q)→S1[q]? =S'[q]?) ∧
       (∀ a < n,∀ c < n,0≤f' a c)∧(∀ a < n,∀ c < n,f' a c ≠ 0→t a c=true)∧(∀ a,sm n (f' a)=sm n (f a)+if qk1 e (ps.take i)=none∧a=z.1 then m else 0)∧(∀ c,sm n (fun a=>f' a c)=sm n (fun a=>f a c)+(if c=e then m else 0) - if qk1 e (ps.take i)=some c then m else 0)∧(∀ a,a ∉ (ps.take i).map (·.1)→∀ c,f' a c=f a c):=⟨_,fun _ _ _=>Iff.rfl⟩
   refine qaq J ((hJ _ _ _).mpr ⟨_,_,_,f,rfl,hN.mat,rfl,fun _ _=>rfl,f0,ft,fun a=>by simp [qk1],fun c=>by
       simp only [List.take_zero,qk1,List.getLast?_nil]
       by_cases hc:c=e
       · subst hc;simp
       · have:¬ e=c:=fun h=>hc h.symm
         simp [hc,this],fun _ _ _=>rfl⟩) (fun _ _ _ _=>qv) (fun i d Γ S1 e1 h=> ?_) fun Γ S1 h=> ?_
   · obtain ⟨v8,v9,v10,f',rfl,hM,hl,ho,pos,tie,row,col,fr⟩:=(hJ _ _ _).mp h
     rw[List.getElem?_map]at e1
     cases e2:ps[i]? with
     | none=>rw[e2]at e1;cases e1
     | some p =>
       rw[e2]at e1
       cases e1
       have hpm:=List.mem_of_getElem? e2
       obtain ⟨c1,hT',hG',c2⟩:=hp.at_ e2
       obtain ⟨g,j,ob⟩:=p
       have hg:g < n:=inG _ hpm
       have hj:j < n:=inT _ hpm
       have hi:i < ps.length:=(List.getElem?_eq_some_iff.mp e2).1
       have ht:ps.take (i+1)=ps.take i++[(g,j,ob)]:=by rw[List.take_succ,e2];rfl
       have hgn:g ∉ (ps.take i).map (·.1):=by
         have:(ps.map (·.1)).take (i+1)=(ps.take i).map (·.1)++[g]:=by rw[← List.map_take,ht];simp
         have nd2:((ps.map (·.1)).take (i+1)).Nodup:=nd.sublist (List.take_sublist _ _)
         rw[this,List.nodup_append]at nd2
         exact fun hh=>nd2.2.2 g hh g (by simp) rfl
       have tgj:t g j=true:=by
         obtain ⟨g',q1,_,q3⟩:=w.srcT _ hT'
         simp at q1;subst q1;exact q3
       simp only [qfu]
       simp
       ((try simp);rw[qa];try simp)
       rw[hM.ix hg]
       simp
       rw[hM.get hg hj]
       simp
       rw[hM.put hg hj]
       have hM1:=hM.bump (j:=j) (c:=m) hg rfl
       have b0:b+g < S1.length:=(List.getElem?_eq_some_iff.mp (hM.row g hg)).1
       have frg:∀ c,f' g c=f g c:=fr g hgn
       cases ob with
       | none =>
         simp at c2
         have last:g=z.1:=by
           by_cases hq:i=qs.length
           · subst hq;rw[e2]at hz';cases hz';rfl
           · have hi2:i+1 < ps.length:=by rw[hz]at hi ⊢;simp at hi ⊢;omega
             have:=(hp.at_ (List.getElem?_eq_getElem hi2)).1
             rw[c2]at this;cases this
         simp [qa,qft]
         refine(hJ _ _ _).mpr ⟨_,_,_,bump f' g j m,rfl,hM1,by simpa using hl,fun q hq=>by rw[List.getElem?_set_ne (by omega)];exact ho q hq,fun a ha c hc=> ?_,fun a ha c hc hne=> ?_,fun a=> ?_,fun c=> ?_,fun a ha c=> ?_⟩
         · have:=pos a ha c hc;unfold bump;split <;> omega
         · unfold bump at hne
           by_cases hx:a=g∧c=j
           · rw[hx.1,hx.2];exact tgj
           · rw[if_neg hx]at hne;exact tie a ha c hc (by omega)
         · rw[qna hj,row a,c1,c2,last]
           simp
         · rw[qnb hg,col c,c1,c2]
           by_cases hx:c=j
           · subst hx;simp
           · have:¬ j=c:=fun h=>hx h.symm
             simp [hx,this]
         · rw[ht]at ha
           simp at ha
           have hag:¬ a=g:=fun hh=>ha.2 hh
           rw[show bump f' g j m a c=f' a c by simp [bump,hag]]
           exact fr a (by simpa using ha.1) c
       | some j' =>
         obtain ⟨hj',hf'⟩:=bk _ hpm j' rfl
         have hb:=mb _ hpm j' rfl
         simp at c2 hb hf'
         simp [qa,qft]
         rw[hM1.ix hg]
         simp
         rw[hM1.get hg hj']
         simp
         rw[hM1.put hg hj']
         have hM2:=hM1.bump (j:=j') (c:= -m) (v:=bump f' g j m g j' - m) hg (by omega)
         rw[List.set_set]at hM2
         simp
         refine(hJ _ _ _).mpr ⟨_,_,_,bump (bump f' g j m) g j' (-m),rfl,hM2,by simpa using hl,fun q hq=>by rw[List.getElem?_set_ne (by omega)];exact ho q hq,fun a ha c hc=> ?_,fun a ha c hc hne=> ?_,fun a=> ?_,fun c=> ?_,fun a ha c=> ?_⟩
         · have h1:=pos a ha c hc
           by_cases hx:a=g∧c=j'
           · obtain ⟨rfl,rfl⟩:=hx
             have:=frg c
             simp only [bump]
             simp
             split <;> omega
           · simp only [bump,if_neg hx]
             split <;> omega
         · by_cases hx:a=g∧c=j
           · rw[hx.1,hx.2];exact tgj
           · by_cases hy:a=g∧c=j'
             · obtain ⟨rfl,rfl⟩:=hy
               exact tie a ha c hc (by rw[frg c];omega)
             · simp only [bump,if_neg hx,if_neg hy]at hne
               exact tie a ha c hc (by omega)
         · rw[qna hj',qna hj,row a,c1,c2]
           simp
           split <;> omega
         · rw[qnb hg,qnb hg,col c,c1,c2]
           by_cases hx:c=j <;> by_cases hy:c=j' <;> simp [hx,hy,eq_comm] <;> omega
         · rw[ht]at ha
           simp at ha
           have hag:¬ a=g:=fun hh=>ha.2 hh
           rw[show bump (bump f' g j m) g j' (-m) a c=f' a c by simp [bump,hag]]
           exact fr a (by simpa using ha.1) c
   · obtain ⟨v8,v9,v10,f',rfl,hM,hl,ho,pos,tie,row,col,fr⟩:=(hJ _ _ _).mp h
     rw[List.length_map,List.take_length,hp.cur]at row
     rw[List.length_map,List.take_length,hp.cur]at col
     obtain ⟨n1,n2,n3,n4,n5⟩:=hN.ne
     have hU:S1[lu]? =some (.lst (vec n fun i=>.int (u i))):=by rw[ho lu n4];exact hN.un
     have hR:S1[lr]? =some (.lst (vec n fun i=>.int (r i))):=by rw[ho lr n5];exact hN.ro
     have lU:=(List.getElem?_eq_some_iff.mp hU).1
     have lR:=(List.getElem?_eq_some_iff.mp hR).1
     ((try simp);rw[qa];try simp)
     simp [qh hU,qbk sn]
     rw[qqp hU (by rw[qav];exact qle sn)]
     ((try simp);rw[qa];try simp)
     have hR2:(S1.set lu (.lst ((vec n fun i=>.int (u i)).set z.1 (.int (u z.1 - m)))))[lr]? =some (.lst (vec n fun i=>.int (r i))):=by rw[List.getElem?_set_ne n1];exact hR
     simp [qh hR2,qbk en]
     rw[qqp hR2 (by rw[qav];exact qle en)]
     simp
     refine k m z.1 f' _ m0 sn en mr mu ⟨pos,tie,fun a _=>by simpa using row a,fun c _=>by simpa using col c⟩ ⟨hM.keep fun q hq=> ?_,?_,?_,hN.ne⟩ (by simpa using hl) fun q q1 q2 q3 q4=> ?_
     · rw[List.getElem?_set_ne (by omega),List.getElem?_set_ne (by omega)]
     · rw[List.getElem?_set_ne (Ne.symm n1),List.getElem?_set,if_pos rfl,if_pos lU,qq4]
       congr 2
       exact qq3 fun i hi=>by by_cases hx:i=z.1 <;> simp [hx]
     · rw[List.getElem?_set,if_pos rfl,if_pos (by simpa using lR),qq4]
       congr 2
       exact qq3 fun i hi=>by by_cases hx:i=e <;> simp [hx]
     · rw[List.getElem?_set_ne (Ne.symm q3),List.getElem?_set_ne (Ne.symm q2)]
       exact ho q q4
structure Flow (n:Nat) (w:Nat→Int) (t:Nat→Nat→Bool) (f:Nat→Nat→Int) (u r:Nat→Int):Prop where
 u0:∀ i < n,0≤u i
 r0:∀ i < n,0≤r i
 pos:∀ i < n,∀ j < n,0≤f i j
 tie:∀ i < n,∀ j < n,f i j ≠ 0→t i j=true
 row:∀ i < n,sm n (f i)+u i=w i
 col:∀ j < n,sm n (fun i=>f i j)+r j=w j
noncomputable def qbc (n:Nat) (w:Nat→Int):D:=.lst (vec n fun i=>.int (w i))
noncomputable def qra (n:Nat) (f:Nat→Nat→Int):D:=.lst (vec n fun i=>.lst (vec n fun j=>.int (f i j)))
theorem qf8:∀ {n:Nat},sm n (fun _=>0)=0
 | 0=>rfl
 | n+1=>by rw[sm,qf8];rfl
theorem qvh {g h:Nat→Int}:∀ {n:Nat},sm n (fun i=>g i - h i)=sm n g - sm n h
 | 0=>rfl
 | n+1=>by rw[sm,sm,sm,qvh];omega
theorem Net.ext {S:Sto} {l b lu lr n:Nat} {f:Nat→Nat→Int} {u r:Nat→Int} (h:Net S l b lu lr n f u r) (X:Sto):Net (S++X) l b lu lr n f u r:=by
 have lt:∀ {q:Nat} {c:Cell},S[q]? =some c→(S++X)[q]? =some c:=fun {q c} e=>by rw[List.getElem?_append_left (List.getElem?_eq_some_iff.mp e).1];exact e
 exact⟨⟨lt h.mat.top,fun i hi=>lt (h.mat.row i hi),h.mat.out⟩,lt h.un,lt h.ro,h.ne⟩
theorem qts {S:Sto} {xs:List D}:biF (.list true) [.lst xs] S=.ok (.ref S.length) (S++[.lst xs]):=rfl
theorem qnc {n:Nat} {S:Sto} {w:Nat→Int} {t:Nat→Nat→Bool} {P:D→Sto→Prop} (hn:n≤100) (hw:∀ i < n,0≤w i)
   (k:∀ f u r G T X,Flow n w t f u r→Walk n u f t [] G T→(∀ j ∈ ky T,r j=0)→P (.tup [qra n f,qck G,qck T]) (S++X)):Ok (qcn [qbc n w,qod n t] S) P:=by
 refine Ok.run ?_
 unfold qjh
 ((try simp);rw[qa];try simp)
 simp [qo,qbc]
 refine⟨qz (by omega),q0y (Φ:=[]) (fn:=[]) (n:=n) (m:=n) (x:=.int 0) (by simp) (fun _=>qv) (fun d hd T=> ?_) ?_⟩
 · simp [qhb,qwz (show n≤1000 by omega)]
 · ((try simp);rw[qa];try simp)
   rw[qts]
   ((try simp);rw[qa];try simp)
   rw[qts]
   ((try simp);rw[qa];try simp)
   have hN0:Net (S++((vec n fun _=>Cell.lst (vec n fun _=>D.int 0))++[Cell.lst (vec n fun i=>.ref (S.length+i)),Cell.lst (vec n fun i=>D.int (w i)),Cell.lst (vec n fun i=>D.int (w i))])) (S.length+n) S.length (S.length+(n+1)) (S.length+(n+2)) n (fun _ _=>0) w w:=by
     refine⟨⟨?_,fun i hi=> ?_,.inr (Nat.le_refl _)⟩,?_,?_,by omega⟩
     · rw[List.getElem?_append_right (by omega),List.getElem?_append_right (by simp)];simp
     · rw[List.getElem?_append_right (by omega),List.getElem?_append_left (by simp;omega)];simp [qfr hi]
     · rw[List.getElem?_append_right (by omega),List.getElem?_append_right (by simp)];simp
     · rw[List.getElem?_append_right (by omega),List.getElem?_append_right (by simp)];simp
   have hq0:∀ q < S.length,(S++((vec n fun _=>Cell.lst (vec n fun _=>D.int 0))++[Cell.lst (vec n fun i=>.ref (S.length+i)),Cell.lst (vec n fun i=>D.int (w i)),Cell.lst (vec n fun i=>D.int (w i))]))[q]? =S[q]? :=fun q hq=>List.getElem?_append_left hq
   generalize S++((vec n fun _=>Cell.lst (vec n fun _=>D.int 0))++[Cell.lst (vec n fun i=>.ref (S.length+i)),Cell.lst (vec n fun i=>D.int (w i)),Cell.lst (vec n fun i=>D.int (w i))])=S0 at *
   obtain ⟨l,hl⟩:∃ l,S.length+n=l:=⟨_,rfl⟩
   obtain ⟨lu,hlu⟩:∃ l,S.length+(n+1)=l:=⟨_,rfl⟩
   obtain ⟨lr,hlr⟩:∃ l,S.length+(n+2)=l:=⟨_,rfl⟩
   rw[hl,hlu,hlr]at hN0 ⊢
   obtain ⟨J,hJ⟩:∃ J:Nat→Env→Sto→Prop,∀ κ Γ S1,J κ Γ S1↔∃ (v5 v6 v7:Option D) (f:Nat→Nat→Int) (u r:Nat→Int),Γ=[some (.lst (vec n fun i=>.int (w i))),some (qod n t),some (.ref l),some (.ref lu),some (.ref lr),v5,v6,v7]∧Net S1 l S.length lu lr n f u r∧(∀ q < S.length,S1[q]? =S[q]?)∧Flow n w t f u r∧κ=(sm n u).toNat:=⟨_,fun _ _ _=>Iff.rfl⟩
   refine qj8 J _ ((hJ _ _ _).mpr ⟨_,_,_,fun _ _=>0,w,w,rfl,hN0,hq0,⟨hw,hw,fun _ _ _ _=>Int.le_refl _,fun _ _ _ _ h=>absurd rfl h,fun i _=>by rw[qf8];omega,fun i _=>by rw[qf8];omega⟩,rfl⟩) fun κ Γ S1 h=> ?_
   obtain ⟨v5,v6,v7,f,u,r,rfl,hN,hq,fl,rfl⟩:=(hJ _ _ _).mp h
   simp [qi1]
   ((try simp);rw[qa];try simp)
   refine qvg hn hN.un hN.mat fun G T X wk=> ?_
   have hN1:=hN.ext X
   simp
   ((try simp);rw[qa];try simp)
   refine q04 hN1.ro wk.ltT (fun e he hr=> ?_) fun hr=> ?_
   · ((try simp);rw[qa];try simp)
     simp [qa]
     refine q4b hn wk he fun ps Y hp nd=> ?_
     have hN2:=hN.ext (X++[Y])
     simp
     refine q4d hn wk hN2 hr hp nd fl.pos fl.tie fun m s f' S' m0 sn en mr mu se hN' hl' hq'=> ?_
     have hr0:r e - m ≥ 0:=by omega
     refine⟨_,?_,(hJ _ _ _).mpr ⟨_,_,_,f',_,_,rfl,hN',fun q hq2=> ?_,⟨fun i hi=> ?_,fun i hi=> ?_,se.pos,se.tie,fun i hi=> ?_,fun j hj=> ?_⟩,rfl⟩⟩
     · rw[qvh,qq9,if_pos sn]
       have:0≤sm n (fun i=>u i - if i=s then m else 0):=qpo fun i hi=>by
         have:=fl.u0 i hi
         by_cases h:i=s
         · subst h;simp;omega
         · simp [h];exact this
       rw[qvh,qq9,if_pos sn]at this
       omega
     · have:q < S1.length:=by
         have:=(List.getElem?_eq_some_iff.mp hN.mat.top).1
         omega
       rw[hq' q (by omega) (by omega) (by omega) (.inl hq2),List.getElem?_append_left this]
       exact hq q hq2
     · have:=fl.u0 i hi
       by_cases h:i=s
       · subst h;simp;omega
       · simp [h];exact this
     · have:=fl.r0 i hi
       by_cases h:i=e
       · subst h;simp;omega
       · simp [h];exact this
     · rw[se.row i hi];have:=fl.row i hi;omega
     · rw[se.col j hj];have:=fl.col j hj;omega
   · ((try simp);rw[qa];try simp)
     simp [qa]
     obtain ⟨S3,e1,e2,e3⟩:=qq6 hN1.mat fun i j=>qc9
     rw[e1]
     simp [qby]
     have hlS:=(List.getElem?_eq_some_iff.mp hN.mat.top).1
     obtain ⟨X',rfl⟩:=qvf (S:=S) (S':=S3) (by simp at e2;omega) fun q hq2=>by
       rw[e3 q (by omega) (.inl hq2),List.getElem?_append_left (by omega)];exact hq q hq2
     exact k f u r G T X' fl wk fun j hj=>Int.le_antisymm (hr j hj) (fl.r0 j (wk.ltT j hj))
theorem qka {g:Nat→Int} {c:Int}:∀ {n:Nat},sm n (fun i=>c * g i)=c * sm n g
 | 0=>by simp [sm]
 | n+1=>by rw[sm,sm,qka,Int.mul_add]
theorem qw2 {g h:Nat→Int}:∀ {n:Nat},(∀ i < n,g i≤h i)→sm n g≤sm n h
 | 0,_=>Int.le_refl _
 | n+1,e=>by
   rw[sm,sm]
   have:=qw2 fun i (hi:i < n)=>e i (by omega)
   have:=e n (by omega)
   omega
theorem qib {f:Nat→Nat→Int}:∀ {n m:Nat},sm n (fun i=>sm m (f i))=sm m (fun j=>sm n (fun i=>f i j))
 | 0,m=>by rw[sm];exact qf8.symm
 | n+1,m=>by rw[sm,qib,← qds];rfl
noncomputable def tot (n:Nat) (R:Nat→Nat→Int):Int:=sm n fun i=>sm n (R i)
structure Stk (n:Nat) (w:Nat→Int) (t:Nat→Nat→Bool) (R:Nat→Nat→Int):Prop where
 pos:∀ i < n,∀ j < n,0≤R i j
 sym:∀ i < n,∀ j < n,R i j=R j i
 tie:∀ i < n,∀ j < n,R i j ≠ 0→t i j=true
 row:∀ i < n,sm n (R i)≤2 * w i
structure Cov (n:Nat) (t:Nat→Nat→Bool) (c:Nat→Int):Prop where
 lo:∀ i < n,0≤c i
 hi:∀ i < n,c i≤2
 two:∀ i < n,∀ j < n,t i j=true→2≤c i+c j
noncomputable def cost (n:Nat) (w c:Nat→Int):Int:=sm n fun i=>w i * c i
theorem weak {n:Nat} {w c:Nat→Int} {t:Nat→Nat→Bool} {R:Nat→Nat→Int} (s:Stk n w t R) (v:Cov n t c):tot n R≤2 * cost n w c:=by
 have h1:2 * tot n R≤sm n fun i=>sm n fun j=>R i j * (c i+c j):=by
   unfold tot
   rw[← qka]
   refine qw2 fun i hi=> ?_
   rw[← qka]
   refine qw2 fun j hj=> ?_
   by_cases h:R i j=0
   · rw[h];simp
   · have:=v.two i hi j hj (s.tie i hi j hj h)
     have:=Int.mul_le_mul_of_nonneg_left this (s.pos i hi j hj)
     rw[Int.mul_comm 2];exact this
 have h2:(sm n fun i=>sm n fun j=>R i j * (c i+c j))=2 * sm n fun i=>c i * sm n (R i):=by
   have e1:∀ i,(sm n fun j=>R i j * (c i+c j))=c i * sm n (R i)+sm n fun j=>R i j * c j:=fun i=>by
     rw[← qka,← qds];exact qbu fun j _=>by rw[Int.mul_add,Int.mul_comm (R i j) (c i)]
   rw[qbu fun i _=>e1 i,qds,qib (f:=fun i j=>R i j * c j)]
   have e2:(sm n fun j=>sm n fun i=>R i j * c j)=sm n fun i=>c i * sm n (R i):=qbu fun j hj=>by
     rw[← qka];exact qbu fun i hi=>by rw[s.sym i hi j hj,Int.mul_comm]
   rw[e2];omega
 have h3:(sm n fun i=>c i * sm n (R i))≤sm n fun i=>2 * (w i * c i):=qw2 fun i hi=>by
   have:=Int.mul_le_mul_of_nonneg_left (s.row i hi) (v.lo i hi)
   rw[show 2 * (w i * c i)=c i * (2 * w i)by rw[← Int.mul_assoc,Int.mul_comm]];exact this
 rw[qka]at h3
 unfold cost
 omega
noncomputable def hv (G T:DL) (i:Nat):Int:=(if i ∈ ky G then 0 else 1)+if i ∈ ky T then 1 else 0
theorem qvi {n:Nat} {u:Nat→Int} {t:Nat→Nat→Bool} {f:Nat→Nat→Int} {G T:DL} (k:Walk n u f t [] G T) (ts:∀ i < n,∀ j < n,t i j=t j i):Cov n t (hv G T):=by
 refine⟨fun i _=> ?_,fun i _=> ?_,fun i hi j hj h=> ?_⟩
 · unfold hv;split <;> split <;> omega
 · unfold hv;split <;> split <;> omega
 · have h1:i ∈ ky G→j ∈ ky T:=fun z=>k.goT i z (by simp) j hj h
   have h2:j ∈ ky G→i ∈ ky T:=fun z=>k.goT j z (by simp) i hi (by rw[← ts i hi j hj];exact h)
   unfold hv
   by_cases a:i ∈ ky G <;> by_cases b:j ∈ ky G <;> simp [a,b,h1,h2] <;> (try split) <;> (try split) <;> omega
theorem qvj {n:Nat} {w u r:Nat→Int} {t:Nat→Nat→Bool} {f:Nat→Nat→Int} (fl:Flow n w t f u r) (ts:∀ i < n,∀ j < n,t i j=t j i):Stk n w t (fun i j=>f i j+f j i):=by
 refine⟨fun i hi j hj=> ?_,fun i _ j _=>Int.add_comm _ _,fun i hi j hj h=> ?_,fun i hi=> ?_⟩
 · have:=fl.pos i hi j hj;have:=fl.pos j hj i hi;omega
 · by_cases a:f i j=0
   · rw[ts i hi j hj];exact fl.tie j hj i hi (by omega)
   · exact fl.tie i hi j hj a
 · rw[qds (g:=f i) (h:=fun j=>f j i)]
   have:=fl.row i hi;have:=fl.col i hi;have:=fl.u0 i hi;have:=fl.r0 i hi
   omega
theorem qrb {n:Nat} {f:Nat→Nat→Int}:tot n (fun i j=>f i j+f j i)=2 * tot n f:=by
 unfold tot
 rw[qbu fun i _=>qds (n:=n) (g:=f i) (h:=fun j=>f j i),qds,qib (f:=fun i j=>f j i)]
 have e:(sm n fun j=>sm n fun i=>f j i)=sm n fun i=>sm n (f i):=rfl
 rw[e]
 omega
theorem qvk {n:Nat} {w u r:Nat→Int} {t:Nat→Nat→Bool} {f:Nat→Nat→Int} {G T:DL} (fl:Flow n w t f u r) (k:Walk n u f t [] G T) (hr:∀ j ∈ ky T,r j=0):cost n w (hv G T)=tot n f:=by
 have e1:cost n w (hv G T)=(sm n fun i=>if i ∈ ky G then 0 else sm n (f i))+sm n fun j=>if j ∈ ky T then sm n (fun i=>f i j)else 0:=by
   rw[← qds]
   refine qbu fun i hi=> ?_
   have h1:i ∉ ky G→sm n (f i)=w i:=fun h=>by
     have:=fl.row i hi;have:=fl.u0 i hi
     have:¬ 0 < u i:=fun z=>h (k.start i hi z)
     omega
   have h2:i ∈ ky T→sm n (fun a=>f a i)=w i:=fun h=>by
     have:=fl.col i hi;have:=hr i h;omega
   unfold hv
   by_cases a:i ∈ ky G <;> by_cases b:i ∈ ky T
   · simp [a,b,h2 b]
   · simp [a,b]
   · simp [a,b,h1 a,h2 b];omega
   · simp [a,b,h1 a]
 have e2:(sm n fun i=>if i ∈ ky G then 0 else sm n (f i))=sm n fun i=>sm n fun j=>if i ∈ ky G then 0 else f i j:=qbu fun i _=>by
   by_cases a:i ∈ ky G
   · simp only [if_pos a];exact qf8.symm
   · simp only [if_neg a]
 have e3:(sm n fun j=>if j ∈ ky T then sm n (fun i=>f i j)else 0)=sm n fun i=>sm n fun j=>if j ∈ ky T then f i j else 0:=by
   rw[qib (f:=fun i j=>if j ∈ ky T then f i j else 0)]
   refine qbu fun j _=> ?_
   by_cases a:j ∈ ky T
   · simp only [if_pos a]
   · simp only [if_neg a];exact qf8.symm
 rw[e1,e2,e3,← qds]
 refine qbu fun i hi=> ?_
 rw[← qds]
 refine qbu fun j hj=> ?_
 by_cases z:f i j=0
 · rw[z];simp
 · have h0:0 < f i j:=by have:=fl.pos i hi j hj;omega
   by_cases a:i ∈ ky G
   · have:j ∈ ky T:=k.goT i a (by simp) j hj (fl.tie i hi j hj z)
     simp [a,this]
   · have:j ∉ ky T:=fun b=>a (k.goG j b i hi h0)
     simp [a,this]
theorem q08 {ts:Option (List (Nat × Nat))} {i j:Nat}:qac ts i j=qac ts j i:=by
 cases ts with
 | none=>simp only [qac];rw[Bool.eq_iff_iff];simp;omega
 | some l =>
   simp only [qac]
   congr 1
   funext p
   rw[Bool.or_comm]
theorem qtt {n:Nat} {ts:Option (List (Nat × Nat))} (h:qcs n ts) {i:Nat}:qac ts i i=false:=by
 cases ts with
 | none=>simp [qac]
 | some l =>
   simp only [qac]
   rw[List.any_eq_false]
   intro p hp
   have:=(h.1 p hp).2.2
   simp
   omega
theorem q4e {Γ:Env} {S:Sto} {src:Src} {n m:Nat} {it:Nat→D} {g:Nat→Nat→D} {hd:D→Env→M Env} {cond:Env→M Bool} {elt:Env→M D} {k:Nat} {Q:List D→Sto→Prop} (hs:∀ T,qag src (S++T))
   (step:∀ i < n,∀ T,Ok (hd (it i) (List.replicate k none++Γ) (S++T)) fun Γ1 S1=>Ok (cond Γ1 S1) fun b S2=>b=true∧Ok (elt Γ1 S2) fun y S3=>y=.ref (S++T).length∧S3=S++T++[.lst (vec m (g i))])
   (fin:Q (vec n fun i=>.ref (S.length+i)) (S++vec n fun i=>.lst (vec m (g i)))):Ok (lcA src k hd cond elt Γ [] (vec n it) S) Q:=by
 refine qqq (fun i a S'=>a=(vec i fun i=>.ref (S.length+i))∧S'=S++vec i fun i=>.lst (vec m (g i))) ⟨rfl,by simp [vec]⟩ (fun i a S' h=>h.2 ▸ hs _) (fun i d a S' e h=> ?_) fun a S' h=> ?_
 · obtain ⟨rfl,rfl⟩:=h
   obtain ⟨hi,rfl⟩:=qch e
   refine(step i hi _).mono fun Γ1 S1 q=>q.mono fun b S2 q=> ?_
   obtain ⟨rfl,q⟩:=q
   rw[if_pos rfl]
   refine q.mono fun y S3 q=> ?_
   obtain ⟨rfl,rfl⟩:=q
   exact⟨by rw[qci];simp,by rw[qci];simp⟩
 · obtain ⟨rfl,rfl⟩:=h
   rw[qav]
   exact fin
theorem q09 {S:Sto} {n m:Nat} {g:Nat→Nat→D}:Mat (S++(vec n fun i=>Cell.lst (vec m (g i)))++[.lst (vec n fun i=>.ref (S.length+i))]) (S.length+n) S.length n m g:=by
 refine⟨?_,fun i hi=> ?_,.inr (Nat.le_refl _)⟩
 · rw[List.getElem?_append_right (by simp)];simp
 · rw[List.getElem?_append_left (by simp;omega),List.getElem?_append_right (by omega)]
   simp [qfr hi]
theorem qtu {n:Nat} {S:Sto} {w:Nat→Int} {ts:Option (List (Nat × Nat))} {P:D→Sto→Prop} (hn:n≤100) (hw:∀ i < n,0≤w i) (ht:qcs n ts)
   (k:∀ f u r G T X l b,Flow n w (qac ts) f u r→Walk n u f (qac ts) [] G T→(∀ j ∈ ky T,r j=0)→S.length≤b→S.length≤l→Mat (S++X) l b n n (fun i j=>.int (f i j+f j i))→P (.ref l) (S++X)):Ok (qco [qbc n w,qw ts] S) P:=by
 refine Ok.run ?_
 unfold qgs
 ((try simp);rw[qa];try simp)
 simp [qbc]
 refine qia hn ht fun X1=> ?_
 refine qnc hn hw fun f u r G T X2 fl wk hr=> ?_
 simp
 ((try simp);rw[qa];try simp)
 simp [qa,qcl,qo,qra,qap]
 rw[qfs]
 refine⟨qz (by simp;omega),q4e (m:=n) (g:=fun i j=>.int (f i j+f j i)) (fun _=>qv) (fun i hi T=> ?_) ?_⟩
 · simp [qcl,qo,qap]
   rw[qfs]
   refine⟨qz (by simp;omega),qbq (g:=fun j=>.int (f i j+f j i)) qv (fun j hj=> ?_) ?_⟩
   · simp [qbk hj,qbk hi]
   · simp
 · have hM:=q09 (S:=S++(X1++X2)) (n:=n) (m:=n) (g:=fun i j=>.int (f i j+f j i))
   have:=k f u r G T (X1++X2++(vec n fun i=>Cell.lst (vec n fun j=>D.int (f i j+f j i)))++[Cell.lst (vec n fun i=>D.ref ((S++(X1++X2)).length+i))]) ((S++(X1++X2)).length+n) (S++(X1++X2)).length fl wk hr (by simp) (by simp;omega) (by
     have e:S++(X1++X2++(vec n fun i=>Cell.lst (vec n fun j=>D.int (f i j+f j i)))++[Cell.lst (vec n fun i=>D.ref ((S++(X1++X2)).length+i))])=S++(X1++X2)++(vec n fun i=>Cell.lst (vec n fun j=>D.int (f i j+f j i)))++[Cell.lst (vec n fun i=>D.ref ((S++(X1++X2)).length+i))]:=by simp
     rw[e];exact hM)
   simpa [Nat.add_assoc]using this
theorem qog {n:Nat} {S:Sto} {w:Nat→Int} {ts:Option (List (Nat × Nat))} {P:D→Sto→Prop} (hn:n≤100) (hw:∀ i < n,0≤w i) (ht:qcs n ts)
   (k:∀ f u r G T X l,Flow n w (qac ts) f u r→Walk n u f (qac ts) [] G T→(∀ j ∈ ky T,r j=0)→S.length≤l→(S++X)[l]? =some (.lst (vec n fun i=>.int (hv G T i)))→P (.ref l) (S++X)):Ok (qbe [qbc n w,qw ts] S) P:=by
 refine Ok.run ?_
 unfold qet
 ((try simp);rw[qa];try simp)
 simp [qbc]
 refine qia hn ht fun X1=> ?_
 refine qnc hn hw fun f u r G T X2 fl wk hr=> ?_
 simp
 ((try simp);rw[qa];try simp)
 rw[qbj (qcf hn),qc5]
 simp
 refine⟨qz (by omega),qbq (g:=fun i=>.int (hv G T i)) qv (fun i hi=> ?_) ?_⟩
 · simp
   refine Ok.run ?_
   unfold qm3
   ((try simp);rw[qa];try simp)
   rw[q86]
   simp
   refine qbz (fun h1=> ?_) fun h1=> ?_
   · ((try simp);rw[qa];try simp)
     rw[q86]
     simp
     refine qbz (fun h2=> ?_) fun h2=> ?_ <;> simp [qa,hv,h1,h2]
   · ((try simp);rw[qa];try simp)
     rw[q86]
     simp
     refine qbz (fun h2=> ?_) fun h2=> ?_ <;> simp [qa,hv,h1,h2]
 · have:=k f u r G T (X1++X2++[.lst (vec n fun i=>.int (hv G T i))]) (S.length+(X1.length+X2.length)) fl wk hr (by omega) (by
     have e:S++(X1++X2++[Cell.lst (vec n fun i=>D.int (hv G T i))])=(S++(X1++X2))++[Cell.lst (vec n fun i=>D.int (hv G T i))]:=by simp
     rw[e,List.getElem?_append_right (by simp)];simp)
   simpa using this
@[simp] theorem qafa {i:Int} {S:Sto}:biF .isi [.int i,.ty "int"] S=.ok (.bl true) S:=(rfl)
@[simp] theorem qafb {i:Int} {S:Sto}:biF .isi [.int i,.ty "bool"] S=.ok (.bl false) S:=(rfl)
@[simp] theorem qafc {b:Bool} {S:Sto}:qi1 (.bl b) S=.ok b S:=(rfl)
theorem sum_list:∀ {n:Nat} {g:Nat→Int},(vec n g).sum=sm n g
 | 0,_=>by simp [vec,sm]
 | n+1,g=>by rw[qci,List.sum_append,sum_list,sm];simp
theorem qlf {n:Nat} {g:Nat→Int} {S:Sto}:biF .sum [.lst (vec n fun i=>.int (g i))] S=.ok (.int (sm n g)) S:=by
 have:(vec n fun i=>D.int (g i))=(vec n g).map D.int:=qwx.symm
 rw[this]
 show qb2 qlz [.lst ((vec n g).map D.int)] S=_
 simp [qb2,sum_ints,sum_list]
theorem qic:∀ {n:Nat} {S:Sto},biF .all [.lst (vec n fun _=>.bl true)] S=.ok (.bl true) S:=by
 intro n S
 have e:∀ n,qa7 (vec n fun _=>D.bl true)=some (List.replicate n true):=fun n=>by
   rw[← qwy]
   induction n with
   | zero=>rfl
   | succ n ih=>rw[List.replicate_succ,qa7,ih];rfl
 show qb2 qsm [.lst (vec n fun _=>.bl true)] S=_
 simp only [qb2,look,qsm,e]
 simp
theorem q4f {l:List (Nat × Nat)} {i j:Nat}:qdg (.tup [.int i,.int j]) (l.map qcg)=some (l.any fun p=>p.1==i && p.2==j):=by
 induction l with
 | nil=>rfl
 | cons p l ih =>
   rw[List.map_cons,qdg,ih]
   have:eqD (qcg p) (.tup [.int i,.int j])=some (p.1==i && p.2==j):=by
     unfold qcg
     simp only [eqD,qbd,D.flat,eqV,Option.map_some,List.length_cons,List.length_nil,if_true]
     congr 1
     rw[Bool.eq_iff_iff]
     simp
     omega
   rw[this]
   simp [qcg,D.dep,qkx]
theorem qrc {l:List (Nat × Nat)} {i j:Nat}:(l.any fun p=>p.1==i && p.2==j)=decide ((i,j) ∈ l):=by
 rw[Bool.eq_iff_iff]
 simp only [List.any_eq_true,Bool.and_eq_true,beq_iff_eq,decide_eq_true_eq]
 constructor
 · rintro ⟨⟨a,b⟩,h,rfl,rfl⟩;exact h
 · intro h;exact⟨_,h,rfl,rfl⟩
theorem qw3 {l:List (Nat × Nat)} {i j:Nat} {S:Sto}:qa8 .In (.tup [.int i,.int j]) (.lst (l.map qcg)) S=.ok (.bl (decide ((i,j) ∈ l))) S:=by
 show inM false (.tup [.int i,.int j]) (.lst (l.map qcg)) S=_
 simp only [inM,q4f,qrc]
 simp
theorem q1a {l:List (Nat × Nat)} {i j:Nat}:qac (some l) i j=(decide ((i,j) ∈ l) || decide ((j,i) ∈ l)):=by
 rw[← qrc,← qrc,Bool.eq_iff_iff]
 simp only [qac,List.any_eq_true,Bool.or_eq_true]
 constructor
 · rintro ⟨p,h,z | z⟩
   · exact .inl ⟨p,h,z⟩
   · exact .inr ⟨p,h,z⟩
 · rintro (⟨p,h,z⟩ | ⟨p,h,z⟩)
   · exact⟨p,h,.inl z⟩
   · exact⟨p,h,.inr z⟩
theorem q1b {ts:Option (List (Nat × Nat))} {i j:Nat} {S:Sto} {P:D→Sto→Prop} (k:P (.bl (qac ts i j)) S):Ok (qc8 [qw ts,.int i,.int j] S) P:=by
 refine Ok.run ?_
 unfold qjv
 cases ts with
 | none =>
   simp only [qw]
   ((try simp);rw[qa];try simp)
   simp [qa]
   have:((i:Int) != (j:Int))=qac none i j:=by simp only [qac];rw[Bool.eq_iff_iff];simp;omega
   rw[this];exact k
 | some l =>
   simp only [qw]
   ((try simp);rw[qa];try simp)
   simp [qa,qby]
   rw[qw3]
   rw[q1a]at k
   by_cases h1:(i,j) ∈ l
   · simpa [h1]using k
   · simp [h1]
     rw[qw3]
     simpa [h1]using k
theorem q1c {n:Nat} {w u r u' r':Nat→Int} {t:Nat→Nat→Bool} {f f':Nat→Nat→Int} {G T G' T':DL} (ts:∀ i < n,∀ j < n,t i j=t j i) (a:Flow n w t f u r) (b:Walk n u f t [] G T) (c:∀ j ∈ ky T,r j=0) (a':Flow n w t f' u' r') (b':Walk n u' f' t [] G' T') (c':∀ j ∈ ky T',r' j=0):tot n f=tot n f':=by
 have h1:=weak (qvj a ts) (qvi b' ts)
 have h2:=weak (qvj a' ts) (qvi b ts)
 rw[qrb,qvk a' b' c']at h1
 rw[qrb,qvk a b c]at h2
 omega
theorem qtv {c:Cell} {S:Sto} {m:Nat} {P:D→Sto→Prop} (hc:qen c) (hm:m≤20) (k:∀ (ts:Option (List (Nat × Nat))) c' T,qcs m ts→qen c'→P (qw ts) (c'::(S++T))):Ok (qcd [.ref 0,.int m] (c::S)) P:=by
 refine Ok.run ?_
 unfold qdm
 ((try simp);rw[qa];try simp)
 refine qad hc (by decide) (by decide) fun r c1 h0 h1 hc1=> ?_
 simp
 refine qbz (fun h=> ?_) fun h=> ?_
 · simp [qa]
   have:=k none c1 [] trivial hc1
   simpa [qw]using this
 · simp [qa]
   exact qtp hc1 hm fun ts c' T ht hl hc'=>k (some ts) c' T ⟨ht,by omega⟩ hc'
theorem q4g {ts:Option (List (Nat × Nat))} {S:Sto} {P:D→Sto→Prop} (k:P (qw ts) S):Ok (qbp [qw ts] S) P:=by
 refine Ok.run ?_
 unfold qcx
 cases ts with
 | none=>simp only [qw]at *;((try simp);rw[qa];try simp);simp [qa];exact k
 | some l=>simp only [qw]at *;((try simp);rw[qa];try simp);simp [qa,biF,qhq];exact k
theorem qtw {n:Nat} {w:Nat→Int} {x:D} {S:Sto} (hx:qbc n w=x):biF .len [x] S=.ok (.int n) S:=by subst hx;simp [qbc]
structure q5g (S:Sto) (x:D) (n:Nat) (w:Nat→Int):Prop where
 len:biF .len [x] S=.ok (.int n) S
 ix:∀ i < n,ixM (look x S) (.int i) S=.ok (.int (w i)) S
structure q1d (S:Sto) (y:D) (n:Nat) (R:Nat→Nat→Int) (ρ:Nat→D):Prop where
 ix:∀ i < n,ixM (look y S) (.int i) S=.ok (ρ i) S
 at_:∀ i < n,∀ j < n,ixM (look (ρ i) S) (.int j) S=.ok (.int (R i j)) S
 sum:∀ i < n,biF .sum [ρ i] S=.ok (.int (sm n (R i))) S
noncomputable def Spot (t:Nat→Nat→Bool) (R:Nat→Nat→Int) (i j:Nat):Prop:=0≤R i j∧(i=j→R i j=0)∧(0 < R i j→t i j=true)∧R i j=R j i
theorem qpp {n:Nat} {w:Nat→Int} {ts:Option (List (Nat × Nat))} {R:Nat→Nat→Int} (ht:qcs n ts):Stk n w (qac ts) R↔∀ i < n,(∀ j < n,Spot (qac ts) R i j)∧sm n (R i)≤2 * w i:=by
 constructor
 · intro s i hi
   refine⟨fun j hj=>⟨s.pos i hi j hj,fun e=> ?_,fun h=>s.tie i hi j hj (by omega),s.sym i hi j hj⟩,s.row i hi⟩
   subst e
   by_cases z:R i i=0
   · exact z
   · have:=s.tie i hi i hi z;rw[qtt ht]at this;cases this
 · intro h
   exact⟨fun i hi j hj=>((h i hi).1 j hj).1,fun i hi j hj=>((h i hi).1 j hj).2.2.2,fun i hi j hj z=>((h i hi).1 j hj).2.2.1 (by have:=((h i hi).1 j hj).1;omega),fun i hi=>(h i hi).2⟩
theorem qyp {n:Nat} {ts:Option (List (Nat × Nat))} {w:Nat→Int} {R:Nat→Nat→Int} {S:Sto} {P:D→Sto→Prop} {x y:D} {ρ:Nat→D} (hx:q5g S x n w) (hy:q1d S y n R ρ) (hn:n≤100) (ht:qcs n ts)
   (k:∀ d,(Stk n w (qac ts) R→d=.non)→(¬ Stk n w (qac ts) R→∃ xs,d=.tup xs)→P d S):Ok (qce [x,qw ts,y] S) P:=by
 have bad:∀ (i:Nat) xs,i < n→¬ ((∀ j < n,Spot (qac ts) R i j)∧sm n (R i)≤2 * w i)→P (.tup xs) S:=fun i xs hi h =>
   k _ (fun s=>absurd ((qpp ht).mp s i hi) h) fun _=>⟨xs,rfl⟩
 refine Ok.run ?_
 unfold qdo
 ((try simp);rw[qa];try simp)
 rw[hx.len]
 simp
 rw[qbj (qcf hn),qc5]
 simp
 refine qaq (fun i Γ S'=>∃ v v' v'':Option D,Γ=[some x,some (qw ts),some y,v,v',v'']∧S'=S∧∀ a < i,(∀ j < n,Spot (qac ts) R a j)∧sm n (R a)≤2 * w a) ⟨_,_,_,rfl,rfl,fun a h=>by omega⟩ (fun _ _ _ _=>qv) (fun i d Γ S' e h=> ?_) fun Γ S' h=> ?_
 · obtain ⟨v1,v2,v3,rfl,rfl,hall⟩:=h
   have hi:=(qch e).1
   have hd:=(qch e).2
   rw[hd]
   clear hd e
   simp
   ((try simp);rw[qa];try simp)
   rw[hx.len]
   simp
   rw[qbj (qcf hn),qc5]
   simp
   refine qaq (fun j Γ S''=>∃ v' v'':Option D,Γ=[some x,some (qw ts),some y,some (.int i),v',v'']∧S''=S'∧∀ b < j,Spot (qac ts) R i b) ⟨_,_,rfl,rfl,fun b h=>by omega⟩ (fun _ _ _ _=>qv) (fun j d Γ S'' e h=> ?_) fun Γ S'' h=> ?_
   · obtain ⟨v2,v3,rfl,rfl,hrow⟩:=h
     have hj:=(qch e).1
     have hd:=(qch e).2
     rw[hd]
     clear hd e
     have out:¬ Spot (qac ts) R i j→∀ xs,P (.tup xs) S'':=fun h xs=>bad i xs hi fun z=>h (z.1 j hj)
     simp
     ((try simp);rw[qa];try simp)
     rw[hy.ix i hi]
     simp
     rw[hy.at_ i hi j hj]
     simp
     ((try simp);rw[qa];try simp)
     refine qbz (fun h=> ?_) fun h0=> ?_
     · simp [qa,qey]
       exact out (fun z=>by have:=z.1;omega) _
     ((try simp);rw[qa];try simp)
     have sel:∀ A B:Prop,(¬ (i=j∧R i j ≠ 0)→A)→((i=j∧R i j ≠ 0)→B)→if (i:Int)=(j:Int)then (if R i j=0 then A else B)else A:=fun A B a b=>by
       by_cases hij:(i:Int)=(j:Int)
       · rw[if_pos hij]
         by_cases z:R i j=0
         · rw[if_pos z];exact a fun q=>q.2 z
         · rw[if_neg z];exact b ⟨by omega,z⟩
       · rw[if_neg hij];exact a fun q=>hij (by omega)
     refine sel _ _ (fun h1=> ?_) fun h1=> ?_
     · ((try simp);rw[qa];try simp)
       have go:Spot (qac ts) R i j→∀ b < j+1,Spot (qac ts) R i b:=fun z b hb=>by
         by_cases e:b=j
         · rw[e];exact z
         · exact hrow b (by omega)
       refine qbz (fun h2=> ?_) fun h2=> ?_
       · refine q1b ?_
         cases ht2:qac ts i j with
         | false =>
           simp [qa,qey]
           exact out (fun z=>by have:=z.2.2.1 (by omega);rw[ht2]at this;cases this) _
         | true =>
           ((try simp);rw[qa];try simp)
           rw[hy.ix j hj]
           simp
           rw[hy.at_ j hj i hi]
           simp
           refine qbz (fun h3=> ?_) fun h3=> ?_
           · exact go ⟨by omega,fun e=>by omega,fun _=>ht2,h3⟩
           · simp [qa,qey]
             exact out (fun z=>h3 z.2.2.2) _
       · ((try simp);rw[qa];try simp)
         rw[hy.ix j hj]
         simp
         rw[hy.at_ j hj i hi]
         simp
         refine qbz (fun h3=> ?_) fun h3=> ?_
         · exact go ⟨by omega,fun e=>by omega,fun z=>by omega,h3⟩
         · simp [qa,qey]
           exact out (fun z=>h3 z.2.2.2) _
     · simp [qa,qey]
       exact out (fun z=>h1.2 (z.2.1 h1.1)) _
   · obtain ⟨v2,v3,rfl,rfl,hrow⟩:=h
     rw[qav]at hrow
     ((try simp);rw[qa];try simp)
     rw[hy.ix i hi]
     simp
     rw[hy.sum i hi]
     simp
     rw[hx.ix i hi]
     simp
     rw[qmf (q0t (by decide) (by decide))]
     simp
     refine qbz (fun h=> ?_) fun h=> ?_
     · simp [qa,qey]
       exact bad i _ hi fun z=>by have:=z.2;omega
     · intro a ha
       by_cases e:a=i
       · rw[e];exact⟨hrow,by omega⟩
       · exact hall a (by omega)
 · obtain ⟨v1,v2,v3,rfl,rfl,hall⟩:=h
   simp [qa]
   rw[qav]at hall
   exact k _ (fun _=>rfl) fun z=>absurd ((qpp ht).mpr hall) z
theorem qtx {l:Nat} {S:Sto} {xs:List D} (h:S[l]? =some (.lst xs)):biF (.list false) [.ref l] S=.ok (.lst xs) S:=by
 show qhq false [.ref l] S=_
 unfold qhq
 dsimp only
 rw[qh h]
 rfl
theorem q4h {l n:Nat} {S:Sto} {g:Nat→Int} (h:S[l]? =some (.lst (vec n fun i=>.int (g i)))):biF .sum [.ref l] S=.ok (.int (sm n g)) S:=by
 have:=qlf (n:=n) (g:=g) (S:=S)
 show qb2 qlz [.ref l] S=_
 have e:qb2 qlz [.lst (vec n fun i=>.int (g i))] S=_:=this
 unfold qb2 at e ⊢
 dsimp only at e ⊢
 rw[qh h]
 exact e
noncomputable def At (S:Sto) (x:D) (xs:List D):Prop:=x=.lst xs∨∃ l,x=.ref l∧S[l]? =some (.lst xs)
section
variable {S:Sto} {x y z:D} {xs:List D} {n:Nat} {w c:Nat→Int} {R:Nat→Nat→Int} {P:D→Sto→Prop} {ts:Option (List (Nat × Nat))}
theorem At.look (h:At S x xs):look x S=.lst xs:=by
 rcases h with rfl | ⟨l,rfl,h⟩
 · rfl
 · exact qh h
theorem At.len (h:At S x xs):biF .len [x] S=.ok (.int xs.length) S:=by
 rcases h with rfl | ⟨l,rfl,h⟩
 · simp
 · exact q38 h
theorem At.isl (h:At S x xs):biF .isi [x,.ty "list"] S=.ok (.bl true) S:=by
 show qsx [x,.ty "list"] S=_
 unfold qsx
 dsimp only
 rw[h.look]
 rfl
theorem At.list (h:At S x xs):biF (.list false) [x] S=.ok (.lst xs) S:=by
 rcases h with rfl | ⟨l,rfl,h⟩
 · rfl
 · exact qtx h
theorem At.seq (h:At S x xs):∃ src,qo x S=.ok (xs,src) S∧qag src S:=by
 rcases h with rfl | ⟨l,rfl,h⟩
 · exact⟨_,rfl,qv⟩
 · refine⟨[(l,.lst xs)],by unfold qo;dsimp only;rw[h],fun p hp=> ?_⟩
   rw[List.mem_singleton.mp hp];exact h
theorem At.vec (h:At S x (vec n fun i=>.int (w i))):q5g S x n w:=⟨by rw[h.len,qav],fun i hi=>by rw[h.look,qmg,qbk hi]⟩
theorem At.sum (h:At S x (T3.vec n fun i=>.int (w i))):biF .sum [x] S=.ok (.int (sm n w)) S:=by
 rcases h with rfl | ⟨l,rfl,h⟩
 · exact qlf
 · exact q4h h
noncomputable def MAt (S:Sto) (y:D) (n:Nat) (R:Nat→Nat→Int):Prop:=∃ ρ:Nat→D,At S y (vec n ρ)∧∀ i < n,At S (ρ i) (vec n fun j=>.int (R i j))
theorem MAt.rows (h:MAt S y n R):∃ ρ,q1d S y n R ρ:=by
 obtain ⟨ρ,h1,h2⟩:=h
 exact⟨ρ,fun i hi=>by rw[h1.look,qmg,qbk hi],fun i hi j hj=>by rw[(h2 i hi).look,qmg,qbk hj],fun i hi=>(h2 i hi).sum⟩
theorem qrd (h:At S x (vec n fun i=>.int (c i))) (hn:n≤100) (k:P (.bl true) S):Ok (qbg [x,.int n] S) P:=by
 obtain ⟨src,e1,e2⟩:=h.seq
 refine Ok.run ?_
 unfold qcq
 ((try simp);rw[qa];try simp)
 rw[h.isl]
 simp
 rw[h.len]
 simp [qa]
 rw[e1]
 simp
 refine⟨qz (by omega),qbq (g:=fun _=>.bl true) e2 (fun i hi=> ?_) ?_⟩
 · simp
 · rw[qic];simpa using k
theorem qre (h:MAt S y n R) (hn:n≤100) (k:P (.bl true) S):Ok (qbf [y,.int n] S) P:=by
 obtain ⟨ρ,h,hr⟩:=h
 obtain ⟨src,e1,e2⟩:=h.seq
 refine Ok.run ?_
 unfold qcp
 ((try simp);rw[qa];try simp)
 rw[h.isl]
 simp
 rw[h.len]
 simp
 rw[qa]
 simp
 rw[e1]
 simp
 refine qaq (fun i Γ S'=>∃ v:Option D,Γ=[some y,some (.int n),v]∧S'=S) ⟨_,rfl,rfl⟩ (fun _ _ _ h=>by obtain ⟨_,_,rfl⟩:=h;exact e2) (fun i d Γ S' e h=> ?_) fun Γ S' h=> ?_
 · obtain ⟨v,rfl,rfl⟩:=h
   obtain ⟨hi,rfl⟩:=qch e
   have hr:=hr i hi
   obtain ⟨src',e1',e2'⟩:=hr.seq
   ((try simp);rw[qa];try simp)
   rw[hr.isl]
   simp
   rw[hr.len]
   simp [qa]
   rw[e1']
   simp
   refine⟨qz (by omega),qbq (g:=fun _=>.bl true) e2' (fun i hi=> ?_) ?_⟩
   · simp
   · rw[qic];simp
 · obtain ⟨v,rfl,rfl⟩:=h
   simp [qa]
   exact k
theorem qab7 (h:MAt S y n R) (hn:n≤100) (k:P (.int (tot n R)) S):Ok (qf7 [y] S) P:=by
 obtain ⟨ρ,h,hr⟩:=h
 obtain ⟨src,e1,e2⟩:=h.seq
 refine Ok.run ?_
 unfold qj6
 ((try simp);rw[qa];try simp)
 rw[e1]
 simp
 refine⟨qz (by omega),qbq (g:=fun i=>.int (sm n (R i))) e2 (fun i hi=> ?_) ?_⟩
 · simp;rw[(hr i hi).sum];simp
 · rw[qlf];simp;exact k
theorem q87 (h:At S x (vec n fun i=>.int (w i))) (h':At S z (vec n fun i=>.int (c i))) (hn:n≤100) (hc:∀ i < n,0≤c i∧c i≤2) (k:P (.int (cost n w c)) S):Ok (qex [x,z] S) P:=by
 refine Ok.run ?_
 unfold qg9
 ((try simp);rw[qa];try simp)
 rw[h'.len]
 simp
 rw[qbj (qcf hn),qc5]
 simp
 refine⟨qz (by omega),qbq (g:=fun i=>.int (w i * c i)) qv (fun i hi=> ?_) ?_⟩
 · have:=hc i hi
   simp
   rw[h.vec.ix i hi]
   simp
   rw[h'.vec.ix i hi]
   simp
   rw[qmf (mul_r (by omega) (by omega))]
   simp
 · rw[qlf];simp;exact k
noncomputable def Two (n:Nat) (t:Nat→Nat→Bool) (c:Nat→Int):Prop:=∀ i < n,∀ j < n,t i j=true→2≤c i+c j
theorem q1e (h:At S z (vec n fun i=>.int (c i))) (hn:n≤100) (ht:qcs n ts) (k:∀ b:Bool,(b=true↔Two n (qac ts) c)→P (.bl b) S):Ok (qc4 [qw ts,z] S) P:=by
 refine Ok.run ?_
 unfold qev
 ((try simp);rw[qa];try simp)
 rw[h.len]
 simp
 rw[qbj (qcf hn),qc5]
 simp
 refine qaq (fun i Γ S'=>∃ v v':Option D,Γ=[some (qw ts),some z,v,v']∧S'=S∧∀ a < i,∀ j < n,qac ts a j=true→2≤c a+c j) ⟨_,_,rfl,rfl,fun a h=>by omega⟩ (fun _ _ _ _=>qv) (fun i d Γ S' e h'=> ?_) fun Γ S' h'=> ?_
 · obtain ⟨v1,v2,rfl,rfl,hall⟩:=h'
   have hi:=(qch e).1
   have hd:=(qch e).2
   rw[hd]
   clear hd e
   ((try simp);rw[qa];try simp)
   rw[h.len]
   simp
   rw[qbj (qcf hn),qc5]
   simp
   refine qaq (fun j Γ S''=>∃ v':Option D,Γ=[some (qw ts),some z,some (.int i),v']∧S''=S'∧∀ b < j,qac ts i b=true→2≤c i+c b) ⟨_,rfl,rfl,fun b h=>by omega⟩ (fun _ _ _ _=>qv) (fun j d Γ S'' e h'=> ?_) fun Γ S'' h'=> ?_
   · obtain ⟨v2,rfl,rfl,hrow⟩:=h'
     have hj:=(qch e).1
     have hd:=(qch e).2
     rw[hd]
     clear hd e
     have go:(qac ts i j=true→2≤c i+c j)→∀ b < j+1,qac ts i b=true→2≤c i+c b:=fun z b hb=>by
       by_cases e:b=j
       · rw[e];exact z
       · exact hrow b (by omega)
     ((try simp);rw[qa];try simp)
     refine qbz (fun e=> ?_) fun e=> ?_
     · exact go fun z=>by rw[show i=j by omega,qtt ht]at z;cases z
     · refine q1b ?_
       cases htt:qac ts i j with
       | false=>simp;exact go fun z=>by rw[htt]at z;cases z
       | true =>
         simp
         rw[h.vec.ix i hi]
         simp
         rw[h.vec.ix j hj]
         simp
         refine qbz (fun h2=> ?_) fun h2=> ?_
         · simp [qa]
           exact k false ⟨(fun z=>by cases z),fun z=>by have:=z i hi j hj htt;omega⟩
         · exact go fun _=>by omega
   · obtain ⟨v2,rfl,rfl,hrow⟩:=h'
     rw[qav]at hrow
     simp
     intro a ha
     by_cases e:a=i
     · rw[e];exact hrow
     · exact hall a (by omega)
 · obtain ⟨v1,v2,rfl,rfl,hall⟩:=h'
   rw[qav]at hall
   simp [qa]
   exact k true ⟨fun _=>hall,fun _=>rfl⟩
theorem q88 (hx:At S x (vec n fun i=>.int (w i))) (hy:MAt S y n R) (hz:At S z (vec n fun i=>.int (c i))) (hn:n≤100) (ht:qcs n ts) (s:Stk n w (qac ts) R) (v:Cov n (qac ts) c) (he:tot n R=2 * cost n w c) (k:P (.bl true) S):Ok (qdq [x,qw ts,y,z] S) P:=by
 have hc0:∀ i < n,0≤c i∧c i≤2:=fun i hi=>⟨v.lo i hi,v.hi i hi⟩
 obtain ⟨ρ,hρ⟩:=hy.rows
 obtain ⟨src,e1,e2⟩:=hz.seq
 refine Ok.run ?_
 unfold qha
 ((try simp);rw[qa];try simp)
 rw[hx.len]
 ((try simp);rw[qa];try simp)
 refine qre hy hn ?_
 simp
 refine qrd hz hn ?_
 simp
 ((try simp);rw[qa];try simp)
 refine qyp hx.vec hρ hn ht fun d hd _=> ?_
 rw[hd s]
 simp
 refine q1e hz hn ht fun b hb=> ?_
 rw[hb.mpr v.two]
 simp
 ((try simp);rw[qa];try simp)
 rw[e1]
 simp
 refine⟨qz (by omega),qbq (g:=fun _=>.bl true) e2 (fun i hi=> ?_) ?_⟩
 · have:=hc0 i hi
   simp
   exact this
 · rw[qic]
   ((try simp);rw[qa];try simp)
   refine qab7 hy hn ?_
   refine q87 hx hz hn hc0 ?_
   rw[qmf (q0t (by decide) (by decide))]
   simp
   rw[he]
   simpa using k
theorem q1f (h:MAt S y n R) (hn:n≤100) (k:P (qra n R) S):Ok (qb9 [y] S) P:=by
 obtain ⟨ρ,h,hr⟩:=h
 obtain ⟨src,e1,e2⟩:=h.seq
 refine Ok.run ?_
 unfold qeu
 ((try simp);rw[qa];try simp)
 rw[e1]
 simp
 refine⟨qz (by omega),qbq (g:=fun i=>qbc n (R i)) e2 (fun i hi=> ?_) k⟩
 simp
 rw[(hr i hi).list]
 simp [qbc]
end
section
variable {S:Sto} {n:Nat} {w c:Nat→Int} {R:Nat→Nat→Int} {t:Nat→Nat→Bool} {P:D→Sto→Prop} {ts:Option (List (Nat × Nat))} {x y z u:D}
theorem qw4 {f g:Nat→D}:qe7 (vec n f) (vec n g)=vec n fun i=>.tup [f i,g i]:=by
 refine List.ext_getElem? fun k=> ?_
 rw[qdz]
 by_cases h:k < n
 · rw[if_pos h,qqf (qfr h) (qfr h)]
 · rw[if_neg h,List.getElem?_eq_none_iff]
   have:∀ (xs ys:List D),(qe7 xs ys).length≤xs.length:=by
     intro xs
     induction xs with
     | nil=>intro ys;simp [qe7]
     | cons x xs ih=>intro ys;cases ys <;> simp [qe7];exact ih _
   have:=this (vec n f) (vec n g)
   simp at this;omega
end
mutual
noncomputable def D.pln:D→Bool
 | .non=>true
 | .bl _=>true
 | .int _=>true
 | .str _=>true
 | .lst xs=>qkb xs
 | .tup xs=>qkb xs
 | _=>false
noncomputable def qkb:List D→Bool
 | []=>true
 | d::ds=>d.pln && qkb ds
end
mutual
theorem qnd:∀ (d:D),d.pln=true→eqD d d=some true
 | .non,_=>rfl
 | .bl b,_=>by simp [eqD,D.flat,eqV]
 | .int i,_=>by simp [eqD,D.flat,eqV]
 | .str x,_=>by simp [eqD,D.flat,eqV]
 | .lst xs,h=>by rw[eqD];simp;exact qkc xs (by rw[D.pln]at h;exact h)
 | .tup xs,h=>by rw[eqD];simp;exact qkc xs (by rw[D.pln]at h;exact h)
 | .ty _,h=>by simp [D.pln]at h
 | .at_ _,h=>by simp [D.pln]at h
 | .ref _,h=>by simp [D.pln]at h
 | .dct _ _,h=>by simp [D.pln]at h
 | .obj _ _ _,h=>by simp [D.pln]at h
theorem qkc:∀ (ds:List D),qkb ds=true→qbd ds ds=some true
 | [],_=>by simp [qbd]
 | d::ds,h=>by
   rw[qkb,Bool.and_eq_true]at h
   rw[qbd,qnd d h.1,qkc ds h.2]
   rfl
end
theorem eq_self {d:D} {S:Sto} (h:d.pln=true) (hd:d.dep≤60):qa8 .Eq d d S=.ok (.bl true) S:=by
 have e0:look d S=d:=by cases d <;> first | rfl | (simp [D.pln]at h)
 show eqM false (look d S) (look d S) S=_
 rw[e0]
 unfold eqM
 rw[qnd d h]
 dsimp only
 rw[decide_eq_true hd,Bool.true_and]
 cases d <;> first | rfl | (simp [D.pln]at h;done)
theorem q1g {n:Nat} {g:Nat→D} (h:∀ i < n,(g i).pln=true):qkb (vec n g)=true:=by
 induction n with
 | zero=>rfl
 | succ n ih =>
   rw[qci]
   have:∀ (xs:List D) (d:D),qkb (xs++[d])=(qkb xs && d.pln):=by
     intro xs d
     induction xs with
     | nil=>simp [qkb]
     | cons x xs ih=>rw[List.cons_append,qkb,ih,qkb,Bool.and_assoc]
   rw[this,ih fun i hi=>h i (by omega),h n (by omega)];rfl
theorem qrf {k:Nat}:∀ {ds:List D},(∀ d ∈ ds,d.dep≤k)→qkx ds≤k
 | [],_=>by simp [qkx]
 | d::ds,h=>by
   rw[qkx]
   have:=h d (by simp)
   have:=qrf fun x (hx:x ∈ ds)=>h x (by simp [hx])
   omega
theorem q1h {n:Nat} {w:Nat→Int}:(qbc n w).pln=true:=by unfold qbc;rw[D.pln];exact q1g fun i _=>by simp [D.pln]
theorem q1i {n:Nat} {w:Nat→Int}:(qbc n w).dep≤1:=by
 unfold qbc;rw[D.dep]
 have:=qrf (k:=0) (ds:=vec n fun i=>D.int (w i)) fun d hd=>by obtain ⟨i,_,rfl⟩:=qq5 hd;simp [D.dep]
 omega
theorem q1j {ts:Option (List (Nat × Nat))}:(qw ts).pln=true:=by
 cases ts with
 | none=>rfl
 | some l =>
   unfold qw;dsimp only;rw[D.pln]
   induction l with
   | nil=>rfl
   | cons p l ih=>rw[List.map_cons,qkb,ih];simp [qcg,D.pln,qkb]
theorem q1k {ts:Option (List (Nat × Nat))}:(qw ts).dep≤2:=by
 cases ts with
 | none=>simp [qw,D.dep]
 | some l =>
   unfold qw;dsimp only;rw[D.dep]
   have:=qrf (k:=1) (ds:=l.map qcg) fun d hd=>by
     obtain ⟨p,_,rfl⟩:=List.mem_map.mp hd
     simp [qcg,D.dep,qkx]
   omega
theorem q1l {a b:Bool} {S:Sto}:qa8 .NotEq (.bl a) (.bl b) S=.ok (.bl (a != b)) S:=by cases a <;> cases b <;> rfl
theorem qab8 {a b:Bool} {S:Sto}:qa8 .Eq (.bl a) (.bl b) S=.ok (.bl (a==b)) S:=by cases a <;> cases b <;> rfl
section
variable {S:Sto} {P:D→Sto→Prop} {n:Nat} {t:Nat→Int} {a b:Int} {x y z:D}
end
section
variable {S:Sto} {P:D→Sto→Prop} {n:Nat} {t:Nat→Int} {x y z:D} {B R:Nat→Nat→Int}
end
section
variable {w:Nat→Int} {n:Nat}
end
@[simp] theorem qadf {d:Nat}:qg [qq d] (qgt d) 0=qp 2 (qq d):=(rfl)
theorem same_int {m:Nat} {a:Int} {S:Sto} {P:D→Sto→Prop} (k:P (.bl true) S):Ok (qq (m+1) [.int a,.int a] S) P:=by
 unfold qq
 refine Ok.run ?_
 unfold qdj
 have i1:∀ (b:Int) S,biF .isi [.int b,.ty "list"] S=.ok (.bl false) S:=fun _ _=>rfl
 have i2:∀ (b:Int) S,biF .isi [.int b,.ty "tuple"] S=.ok (.bl false) S:=fun _ _=>rfl
 have i5:∀ (b:Int) S,biF .isi [.int b,.ty "str"] S=.ok (.bl false) S:=fun _ _=>rfl
 have i6:∀ (b:Int) S,qa8 .Is (.int b) .non S=.ok (.bl false) S:=fun _ _=>rfl
 ((try simp);rw[qa];try simp [i1,i2])
 ((try simp);rw[qa];try simp [i6])
 ((try simp);rw[qa];try simp [q1l])
 ((try simp);rw[qa];try simp [i5,qab8])
 exact k
theorem qty {m n:Nat} {w:Nat→Int} {S:Sto} {P:D→Sto→Prop} {x:D} (hx:qbc n w=x) (hn:n≤100) (k:P (.bl true) S):Ok (qq (m+2) [x,x] S) P:=by
 have i1:∀ S,biF .isi [x,.ty "list"] S=.ok (.bl true) S:=fun _=>by subst hx;rfl
 have i2:∀ S,biF .isi [x,.ty "tuple"] S=.ok (.bl false) S:=fun _=>by subst hx;rfl
 have hz:∀ S,qd7 [x,x] S=.ok (vec n fun i=>.tup [.int (w i),.int (w i)],[]) S:=fun S=>by
   subst hx
   show qd7 [.lst (vec n fun i=>.int (w i)),.lst (vec n fun i=>.int (w i))] S=_
   simp [qd7,qo,M.bind]
   rw[qw4]
 unfold qq
 refine Ok.run ?_
 unfold qdj
 ((try simp);rw[qa];try simp [i1])
 ((try simp);rw[qa];try simp [i1,i2,q1l])
 ((try simp);rw[qa];try simp)
 rw[qtw hx]
 simp
 rw[qtw hx]
 simp
 rw[hz]
 simp
 refine⟨qz (by omega),qbq (g:=fun _=>.bl true) qv (fun i hi=> ?_) ?_⟩
 · simp
   exact same_int ⟨rfl,rfl⟩
 · rw[qic];simp;exact k
mutual
noncomputable def D.sh (n:Nat):D→D
 | .ref l=>.ref (l+n)
 | .lst xs=>.lst (shs n xs)
 | .tup xs=>.tup (shs n xs)
 | .dct ks xs=>.dct ks (shs n xs)
 | .obj C fs xs=>.obj C fs (shs n xs)
 | .non=>.non
 | .bl b=>.bl b
 | .int i=>.int i
 | .str x=>.str x
 | .ty t=>.ty t
 | .at_ a=>.at_ a
noncomputable def shs (n:Nat):List D→List D
 | []=>[]
 | d::ds=>d.sh n::shs n ds
end
theorem qid {n:Nat}:∀ xs:List D,shs n xs=xs.map (D.sh n)
 | []=>by simp [shs]
 | x::xs=>by simp [shs,qid xs]
@[simp] theorem qdt {n l:Nat}:(D.ref l).sh n=.ref (l+n):=by rw[D.sh]
@[simp] theorem qa6 {n:Nat} {xs:List D}:(D.lst xs).sh n=.lst (xs.map (D.sh n)):=by rw[D.sh,qid]
@[simp] theorem qez {n:Nat} {xs:List D}:(D.tup xs).sh n=.tup (xs.map (D.sh n)):=by rw[D.sh,qid]
@[simp] theorem qd4 {n:Nat} {ks:List Key} {xs:List D}:(D.dct ks xs).sh n=.dct ks (xs.map (D.sh n)):=by rw[D.sh,qid]
@[simp] theorem qvl {n:Nat} {C:Addr} {fs:List Str} {xs:List D}:(D.obj C fs xs).sh n=.obj C fs (xs.map (D.sh n)):=by rw[D.sh,qid]
@[simp] theorem qrg {n:Nat}:D.non.sh n=.non:=by rw[D.sh]
@[simp] theorem qtz {n:Nat} {b:Bool}:(D.bl b).sh n=.bl b:=by rw[D.sh]
@[simp] theorem qab {n:Nat} {b:Int}:(D.int b).sh n=.int b:=by rw[D.sh]
@[simp] theorem qe0 {n:Nat} {b:Str}:(D.str b).sh n=.str b:=by rw[D.sh]
@[simp] theorem qw5 {n:Nat} {b:String}:(D.ty b).sh n=.ty b:=by rw[D.sh]
@[simp] theorem q1m {n:Nat} {b:Addr}:(D.at_ b).sh n=.at_ b:=by rw[D.sh]
noncomputable def Cell.sh (n:Nat):Cell→Cell
 | .gone=>.gone
 | .lst xs=>.lst (xs.map (D.sh n))
 | .dct ks xs=>.dct ks (xs.map (D.sh n))
 | .obj C fs xs=>.obj C fs (xs.map (D.sh n))
noncomputable abbrev up (P S:Sto):Sto:=P++S.map (Cell.sh P.length)
noncomputable abbrev eS (n:Nat) (Γ:Env):Env:=Γ.map (Option.map (D.sh n))
noncomputable def Sim {α:Type} (P:Sto) (f:α→α) (m m':M α):Prop:=∀ S a S',m S=.ok a S'→m' (up P S)=.ok (f a) (up P S')
section
variable {P:Sto}
theorem qie {S:Sto} {l:Nat}:(up P S)[l+P.length]? =(S[l]?).map (Cell.sh P.length):=by
 rw[List.getElem?_append_right (by omega)];simp
theorem qrh {S:Sto} {l:Nat} {c:Cell}:(up P S).set (l+P.length) (c.sh P.length)=up P (S.set l c):=by
 rw[List.set_append_right _ _ (by omega)];simp [List.map_set]
theorem qaw {d:D} {S:Sto}:look (d.sh P.length) (up P S)=(look d S).sh P.length:=by
 cases d <;> try simp [look]
 rename_i l
 rw[qie]
 cases e:S[l]? with
 | none=>simp
 | some c=>cases c <;> simp [Cell.sh]
theorem q4i {S:Sto} {c:Cell}:up P S++[c.sh P.length]=up P (S++[c]):=by simp
theorem q4j {n:Nat} {d:D}:(d.sh n).cell=d.cell.sh n:=by cases d <;> simp [D.cell,Cell.sh]
theorem Sim.pure {α:Type} {f:α→α} {a:α}:Sim P f (M.pure a) (M.pure (f a)):=by
 intro S b S' h;cases h;rfl
theorem Sim.pure' {α:Type} {f:α→α} {a b:α} (h:b=f a):Sim P f (M.pure a) (M.pure b):=by subst h;exact Sim.pure
theorem Sim.fail {α:Type} {f:α→α} {m:M α}:Sim P f M.fail m:=by intro S b S' h;cases h
theorem Sim.bind {α β:Type} {f:α→α} {g:β→β} {m m':M α} {k k':α→M β} (h:Sim P f m m') (hk:∀ a,Sim P g (k a) (k' (f a))):Sim P g (M.bind m k) (M.bind m' k'):=by
 intro S b S' e
 unfold M.bind at e ⊢
 cases e1:m S with
 | ok a S1=>rw[e1]at e;rw[h _ _ _ e1];exact hk a _ _ _ e
 | err x S1=>rw[e1]at e;cases e
 | no=>rw[e1]at e;cases e
theorem Sim.ite {α:Type} {f:α→α} {c:Bool} {m m' k k':M α} (h:Sim P f m m') (h':Sim P f k k'):Sim P f (if c=true then m else k) (if c=true then m' else k'):=by
 cases c
 · exact h'
 · exact h
theorem Sim.seeing {α:Type} {f:α→α} {d:D} {k k':D→M α} (h:∀ x,Sim P f (k x) (k' (x.sh P.length))):Sim P f (fun S=>k (look d S) S) (fun S=>k' (look (d.sh P.length) S) S):=by
 intro S a S' e
 dsimp only at e ⊢
 rw[qaw];exact h _ _ _ _ e
theorem s_alloc {new:Bool} {d:D}:Sim P (D.sh P.length) (alloc new d) (alloc new (d.sh P.length)):=by
 intro S a S' e
 unfold alloc at e ⊢
 cases new
 · cases e;rfl
 · cases e;rw[if_pos rfl,q4j,q4i];simp [Nat.add_comm]
theorem qbn {new:Bool} {ds es:List D} (h:es=ds.map (D.sh P.length)):Sim P (D.sh P.length) (alloc new (.lst ds)) (alloc new (.lst es)):=by
 subst h;have:=s_alloc (P:=P) (new:=new) (d:=.lst ds);rwa [qa6]at this
end
@[simp] theorem qw6 {n:Nat} {d:D}:(d.sh n).flat=d.flat:=by cases d <;> simp [D.flat]
mutual
theorem qvm {n:Nat}:∀ x y:D,eqD (x.sh n) (y.sh n)=eqD x y
 | .lst xs,y=>by
   cases y <;> simp [eqD,D.flat]
   rename_i ys
   rw[qri xs ys]
 | .tup xs,y=>by
   cases y <;> simp [eqD,D.flat]
   rename_i ys
   rw[qri xs ys]
 | .non,y=>by simp [eqD]
 | .bl b,y=>by simp [eqD]
 | .int i,y=>by simp [eqD]
 | .str x,y=>by simp [eqD]
 | .ty _,y=>by simp [eqD]
 | .at_ _,y=>by simp [eqD]
 | .ref _,y=>by simp [eqD]
 | .dct _ _,y=>by simp [eqD]
 | .obj _ _ _,y=>by simp [eqD]
theorem qri {n:Nat}:∀ xs ys:List D,qbd (xs.map (D.sh n)) (ys.map (D.sh n))=qbd xs ys
 | [],ys=>by cases ys <;> simp [qbd]
 | x::xs,ys=>by
   cases ys with
   | nil=>simp [qbd]
   | cons y ys=>simp only [List.map_cons,qbd];rw[qvm x y,qri xs ys]
end
mutual
theorem qvn {n:Nat}:∀ x:D,(x.sh n).dep=x.dep
 | .lst xs=>by simp [D.dep,qrj xs]
 | .tup xs=>by simp [D.dep,qrj xs]
 | .non=>by simp
 | .bl b=>by simp
 | .int i=>by simp
 | .str x=>by simp
 | .ty _=>by simp
 | .at_ _=>by simp
 | .ref _=>by simp [D.dep]
 | .dct _ _=>by simp [D.dep]
 | .obj _ _ _=>by simp [D.dep]
theorem qrj {n:Nat}:∀ xs:List D,qkx (xs.map (D.sh n))=qkx xs
 | []=>by simp
 | x::xs=>by simp [qkx,qvn x,qrj xs]
end
@[simp] theorem qif {n:Nat} {d:D}:keyOf (d.sh n)=keyOf d:=by cases d <;> simp [keyOf]
theorem qrk {n:Nat} {d:D}:∀ es:List D,qdg (d.sh n) (es.map (D.sh n))=qdg d es
 | []=>by simp [qdg]
 | e::es=>by simp only [List.map_cons,qdg];rw[qvm,qrk es,qvn]
@[simp] theorem qda {n:Nat}:∀ xs:List D,intsOf (xs.map (D.sh n))=intsOf xs
 | []=>rfl
 | x::xs=>by cases x <;> simp [intsOf,qda xs]
@[simp] theorem qne {n:Nat}:∀ xs:List D,qa7 (xs.map (D.sh n))=qa7 xs
 | []=>rfl
 | x::xs=>by cases x <;> simp [qa7,qne xs]
@[simp] theorem qpq {n:Nat}:∀ xs:List D,strsOf (xs.map (D.sh n))=strsOf xs
 | []=>rfl
 | x::xs=>by cases x <;> simp [strsOf,qpq xs]
@[simp] theorem q4k {α β:Type} (f:α→β) {xs:List α} {i:Int}:atI (xs.map f) i=(atI xs i).map f:=by
 unfold atI;rw[List.length_map];cases ixN xs.length i <;> simp
theorem qt0 {f:D→D} {k:Key}:∀ (ks:List Key) (xs:List D),qfh ks (xs.map f) k=(qfh ks xs k).map f
 | [],_=>by simp [qfh]
 | _::_,[]=>by simp [qfh]
 | j::ks,x::xs=>by
   simp only [List.map_cons,qfh]
   split
   · rfl
   · exact qt0 ks xs
theorem qpr {f:D→D} {k:Key} {v:D}:∀ (ks:List Key) (xs:List D),qd5 k (f v) ks (xs.map f)=(qd5 k v ks xs).map f
 | [],_=>by simp [qd5]
 | _::_,[]=>by simp [qd5]
 | j::ks,x::xs=>by
   simp only [List.map_cons,qd5,qpr ks xs]
   split <;> rfl
theorem qps {f:D→D} {k:Key} {v:D} {ks:List Key} {xs:List D}:qaz ks (xs.map f) k (f v)=(qaz ks xs k v).map f:=by
 unfold qaz
 split
 · exact qpr ks xs
 · simp
theorem qw7 {f:D→D} {xs:List D} {lo hi:Option Int}:cutD (xs.map f) lo hi=(cutD xs lo hi).map f:=by
 unfold cutD;simp [List.map_drop,List.map_take]
theorem qt1 {n:Nat}:∀ (xs ys:List D),qe7 (xs.map (D.sh n)) (ys.map (D.sh n))=(qe7 xs ys).map (D.sh n)
 | [],_=>by simp [qe7]
 | _::_,[]=>by simp [qe7]
 | x::xs,y::ys=>by simp [qe7,qt1 xs ys]
theorem qyq {n:Nat} (xs:List D):qfk (xs.map (D.sh n))=(qfk xs).map (D.sh n):=by
 unfold qfk
 rw[List.length_map,List.map_map]
 refine List.map_congr_left fun i hi=> ?_
 have hi:i < xs.length:=by simpa using hi
 simp [List.getD,hi]
theorem qw8 {n:Nat} {lo:Int} {k:Nat}:(qd6 lo k).map (D.sh n)=qd6 lo k:=by simp [qd6]
theorem qt2 {n:Nat} (ks:List Key):(ks.map qhs).map (D.sh n)=ks.map qhs:=by
 rw[List.map_map];refine List.map_congr_left fun k _=> ?_
 cases k <;> simp [qhs]
theorem qt3 {n:Nat} (ns:List Int):(ns.map D.int).map (D.sh n)=ns.map D.int:=by simp
section
variable {P:Sto}
theorem qab9 {new:Bool} (x y:D):Sim P (D.sh P.length) (qxy new x y) (qxy new (x.sh P.length) (y.sh P.length)):=by
 cases x <;> cases y <;> first | exact Sim.fail | (simp only [qab,qe0,qa6,qez,qxy,List.length_map];first | (refine Sim.ite ?_ Sim.fail;first | exact Sim.pure' (by simp) | exact qbn (by simp)) | exact Sim.pure' (by simp) | skip)
 rw[List.isEmpty_map]
 exact Sim.ite (Sim.pure' (by simp)) Sim.fail
theorem q5h (x y:D):Sim P (D.sh P.length) (qxz x y) (qxz (x.sh P.length) (y.sh P.length)):=by
 cases x <;> cases y <;> first | exact Sim.fail | (simp only [qab,qxz];exact Sim.pure' (by simp))
theorem qaca {new:Bool} (x y:D):Sim P (D.sh P.length) (qx0 new x y) (qx0 new (x.sh P.length) (y.sh P.length)):=by
 cases x <;> cases y <;> first | exact Sim.fail | (simp only [qab,qa6,qx0,List.length_map];refine Sim.ite ?_ Sim.fail;first | exact Sim.pure' (by simp) | exact qbn (by rw[List.map_flatten,List.map_replicate]))
theorem qacb (x y:D):Sim P (D.sh P.length) (qzy x y) (qzy (x.sh P.length) (y.sh P.length)):=by
 cases x <;> cases y <;> first | exact Sim.fail | (simp only [qab,qzy];exact Sim.ite (Sim.pure' (by simp)) Sim.fail)
theorem qacc (x y:D):Sim P (D.sh P.length) (qzz x y) (qzz (x.sh P.length) (y.sh P.length)):=by
 cases x <;> cases y <;> first | exact Sim.fail | (simp only [qab,qzz];exact Sim.ite (Sim.pure' (by simp)) Sim.fail)
theorem qacd (x y:D):Sim P (D.sh P.length) (qz0 x y) (qz0 (x.sh P.length) (y.sh P.length)):=by
 cases x <;> cases y <;> first | exact Sim.fail | (simp only [qab,qz0];exact Sim.ite (Sim.pure' (by simp)) Sim.fail)
theorem qe1 {f f':D→D→M D} (h:∀ x y,Sim P (D.sh P.length) (f x y) (f' (x.sh P.length) (y.sh P.length))) (x y:D):Sim P (D.sh P.length) (seen f x y) (seen f' (x.sh P.length) (y.sh P.length)):=by
 intro S a S' e
 unfold seen at e ⊢
 rw[qaw,qaw];exact h _ _ _ _ _ e
theorem qace {new:Bool} {op:Operator} (x y:D):Sim P (D.sh P.length) (qgn new op x y) (qgn new op (x.sh P.length) (y.sh P.length)):=by
 cases op <;> first | exact Sim.fail | exact qe1 qab9 x y | exact qe1 q5h x y | exact qe1 qaca x y | exact qe1 qacb x y | exact qe1 qacc x y | exact qe1 qacd x y
theorem q89 {p:Int→Int→Bool} (x y:D):Sim P (D.sh P.length) (qsf p x y) (qsf p (x.sh P.length) (y.sh P.length)):=by
 cases x <;> cases y <;> first | exact Sim.fail | (simp only [qab,qsf];exact Sim.pure' (by simp))
theorem qacf {neg:Bool} (x y:D):Sim P (D.sh P.length) (eqM neg x y) (eqM neg (x.sh P.length) (y.sh P.length)):=by
 unfold eqM
 rw[qvm,qvn,qw6,qw6]
 cases eqD x y with
 | none=>exact Sim.fail
 | some b=>exact Sim.ite (Sim.pure' (by simp)) Sim.fail
theorem qacg {neg:Bool} (x y:D):Sim P (D.sh P.length) (isM neg x y) (isM neg (x.sh P.length) (y.sh P.length)):=by
 have:(x.sh P.length).isNon=x.isNon:=by cases x <;> simp [D.isNon]
 cases y <;> first | exact Sim.fail | (simp only [qrg,isM,this];exact Sim.pure' (by simp))
theorem qach {neg:Bool} (x y:D):Sim P (D.sh P.length) (inM neg x y) (inM neg (x.sh P.length) (y.sh P.length)):=by
 cases y <;> first | exact Sim.fail | skip
 case str j=>cases x <;> first | exact Sim.fail | (simp only [qe0,inM];exact Sim.pure' (by simp))
 case lst es =>
   simp only [qa6,inM,qrk]
   cases qdg x es with
   | none=>exact Sim.fail
   | some b=>exact Sim.pure' (by simp)
 case tup es =>
   simp only [qez,inM,qrk]
   cases qdg x es with
   | none=>exact Sim.fail
   | some b=>exact Sim.pure' (by simp)
 case dct ks es =>
   simp only [qd4,inM,qif]
   cases keyOf x with
   | none=>exact Sim.fail
   | some b=>exact Sim.pure' (by simp)
theorem qpt {op:CmpOp} (x y:D):Sim P (D.sh P.length) (qa8 op x y) (qa8 op (x.sh P.length) (y.sh P.length)):=by
 cases op <;> first | exact qe1 q89 x y | exact qe1 qacf x y | exact qe1 qacg x y | exact Sim.seeing (k:=fun z=>inM _ x z) (k':=fun z=>inM _ (x.sh P.length) z) (fun z=>qach x z)
theorem qvo {i:Nat} {Γ:Env}:Sim P (D.sh P.length) (qfg i Γ) (qfg i (eS P.length Γ)):=by
 unfold qfg
 rw[List.getElem?_map]
 cases Γ[i]? with
 | none=>exact Sim.fail
 | some o=>cases o with
   | none=>exact Sim.fail
   | some d=>exact Sim.pure
theorem qnf {d:D}:Sim P id (asB d) (asB (d.sh P.length)):=by
 cases d <;> first | exact Sim.fail | (rw[qtz];exact Sim.pure' rfl)
theorem qaci {d:D}:Sim P (D.sh P.length) (qu4 d) (qu4 (d.sh P.length)):=by
 cases d <;> first | exact Sim.fail | (rw[qab];exact Sim.pure' (by simp))
theorem qacj {d:D}:Sim P id (asI d) (asI (d.sh P.length)):=by
 cases d <;> first | exact Sim.fail | (rw[qab];exact Sim.pure' rfl)
theorem qack {d:D}:Sim P id (qi1 d) (qi1 (d.sh P.length)):=by
 intro S a S' e
 unfold qi1 at e ⊢
 rw[qaw]
 cases e1:look d S <;> rw[e1]at e <;> first | (cases e;done) | skip
 case str y =>
   simp only [qe0]at e ⊢
   revert e
   cases sizeOk y.length <;> intro e <;> cases e
   rfl
 all_goals (cases e;simp [M.pure])
theorem qacl {ds:List D}:Sim P (D.sh P.length) (mkT ds) (mkT (ds.map (D.sh P.length))):=by
 unfold mkT;rw[List.length_map];exact Sim.ite (Sim.pure' (by simp)) Sim.fail
theorem qacm {new:Bool} {ds:List D}:Sim P (D.sh P.length) (mkL new ds) (mkL new (ds.map (D.sh P.length))):=by
 unfold mkL;rw[List.length_map];exact Sim.ite (qbn rfl) Sim.fail
theorem q5i (x y:D):Sim P (D.sh P.length) (ixM x y) (ixM (x.sh P.length) (y.sh P.length)):=by
 cases x <;> first | exact Sim.fail | skip
 case dct ks xs =>
   simp only [qd4,ixM,qif]
   cases keyOf y with
   | none=>exact Sim.fail
   | some j =>
     dsimp only
     rw[qt0]
     cases qfh ks xs j with
     | none=>exact Sim.fail
     | some d=>exact Sim.pure
 all_goals
   cases y <;> first | exact Sim.fail | skip
   simp only [qa6,qez,qe0,qab,ixM,q4k]
 case lst.int xs i =>
   cases atI xs i with
   | none=>exact Sim.fail
   | some d=>exact Sim.pure
 case tup.int xs i =>
   cases atI xs i with
   | none=>exact Sim.fail
   | some d=>exact Sim.pure
 case str.int z i =>
   cases atI z.cps.toList i with
   | none=>exact Sim.fail
   | some d=>exact Sim.ite (Sim.pure' (by simp)) Sim.fail
theorem qacn {new:Bool} {x:D} {lo hi:Option Int}:Sim P (D.sh P.length) (slM new x lo hi) (slM new (x.sh P.length) lo hi):=by
 cases x <;> first | exact Sim.fail | skip
 case lst xs=>simp only [qa6,slM];exact qbn qw7
 case tup xs=>simp only [qez,slM,List.length_map];exact Sim.ite (Sim.pure' (by rw[qez,qw7])) Sim.fail
end
section
variable {P:Sto}
theorem qaco (ds:List D):Sim P (D.sh P.length) (qsl ds) (qsl (ds.map (D.sh P.length))):=by
 rcases ds with _ | ⟨d,_ | ⟨e,r⟩⟩ <;> first | exact Sim.fail | skip
 intro S a S' e
 simp only [List.map_cons,List.map_nil,qsl]at e ⊢
 rw[qaw]
 cases e1:look d S <;> rw[e1]at e <;> first | (cases e;done) | skip
 case str y =>
   simp only [qe0]at e ⊢
   revert e
   cases sizeOk y.length <;> intro e <;> cases e
   simp [M.pure]
 all_goals (cases e;simp [M.pure])
theorem qrl {f:List D→M D} (hf:∀ xs,Sim P (D.sh P.length) (f xs) (f (xs.map (D.sh P.length)))) (ds:List D):Sim P (D.sh P.length) (qb2 f ds) (qb2 f (ds.map (D.sh P.length))):=by
 rcases ds with _ | ⟨d,_ | ⟨e,r⟩⟩ <;> first | exact Sim.fail | skip
 intro S a S' e
 simp only [List.map_cons,List.map_nil,qb2]at e ⊢
 rw[qaw]
 cases e1:look d S <;> rw[e1]at e <;> first | (cases e;done) | skip
 simp only [qa6]
 exact hf _ _ _ _ e
theorem qacp (xs:List D):Sim P (D.sh P.length) (qlz xs) (qlz (xs.map (D.sh P.length))):=by
 unfold qlz;rw[qda];cases intsOf xs <;> first | exact Sim.fail | exact Sim.pure' (by simp)
theorem qacq (xs:List D):Sim P (D.sh P.length) (qsm xs) (qsm (xs.map (D.sh P.length))):=by
 unfold qsm;rw[qne];cases qa7 xs <;> first | exact Sim.fail | exact Sim.pure' (by simp)
theorem qacr (xs:List D):Sim P (D.sh P.length) (qx4 xs) (qx4 (xs.map (D.sh P.length))):=by
 unfold qx4;rw[qne];cases qa7 xs <;> first | exact Sim.fail | exact Sim.pure' (by simp)
theorem qacs (ds:List D):Sim P (D.sh P.length) (minD ds) (minD (ds.map (D.sh P.length))):=by
 rcases ds with _ | ⟨d,_ | ⟨e,_ | ⟨_,_⟩⟩⟩
 · exact Sim.fail
 · intro S a S' e
   simp only [List.map_cons,List.map_nil,minD]at e ⊢
   rw[qaw]
   cases e1:look d S <;> rw[e1]at e <;> first | (cases e;done) | skip
   rename_i xs
   simp only [qa6,qda]at e ⊢
   cases e2:intsOf xs with
   | none=>rw[e2]at e;cases e
   | some ns =>
     rw[e2]at e
     dsimp only at e ⊢
     revert e
     cases !ns.isEmpty <;> intro e <;> cases e
     simp [M.pure]
 · cases d <;> cases e <;> first | exact Sim.fail | (simp only [List.map_cons,List.map_nil,qab,minD];exact Sim.pure' (by simp))
 · intro S a S' h
   cases d <;> cases e <;> cases h
theorem qact (ds:List D):Sim P (D.sh P.length) (maxD ds) (maxD (ds.map (D.sh P.length))):=by
 rcases ds with _ | ⟨d,_ | ⟨e,_ | ⟨_,_⟩⟩⟩
 · exact Sim.fail
 · intro S a S' h;cases d <;> cases h
 · cases d <;> cases e <;> first | exact Sim.fail | (simp only [List.map_cons,List.map_nil,qab,maxD];exact Sim.pure' (by simp))
 · intro S a S' h
   cases d <;> cases e <;> cases h
theorem q9a {new:Bool} (ds:List D):Sim P (D.sh P.length) (qhq new ds) (qhq new (ds.map (D.sh P.length))):=by
 rcases ds with _ | ⟨d,_ | ⟨e,r⟩⟩ <;> first | exact Sim.fail | skip
 intro S a S' e
 simp only [List.map_cons,List.map_nil,qhq]at e ⊢
 rw[qaw]
 cases e1:look d S <;> rw[e1]at e <;> first | (cases e;done) | skip
 · simp only [qa6];exact qbn rfl _ _ _ e
 · simp only [qez];exact qbn rfl _ _ _ e
theorem q9b (ds:List D):Sim P (D.sh P.length) (qx5 ds) (qx5 (ds.map (D.sh P.length))):=by
 rcases ds with _ | ⟨d,_ | ⟨e,r⟩⟩ <;> first | exact Sim.fail | skip
 intro S a S' e
 simp only [List.map_cons,List.map_nil,qx5]at e ⊢
 rw[qaw]
 cases e1:look d S <;> rw[e1]at e <;> first | (cases e;done) | skip
 all_goals (cases e;simp [M.pure])
theorem q9c (ds:List D):Sim P (D.sh P.length) (intD ds) (intD (ds.map (D.sh P.length))):=by
 rcases ds with _ | ⟨d,_ | ⟨e,r⟩⟩
 · exact Sim.fail
 · cases d <;> first | exact Sim.fail | (simp only [List.map_cons,List.map_nil,qab,qtz,intD];exact Sim.pure' (by simp))
 · intro S a S' h;cases d <;> cases h
theorem q9d (ds:List D):Sim P (D.sh P.length) (qx6 ds) (qx6 (ds.map (D.sh P.length))):=by
 rcases ds with _ | ⟨d,_ | ⟨e,r⟩⟩
 · exact Sim.fail
 · cases d <;> first | exact Sim.fail | (simp only [List.map_cons,List.map_nil,qab,qx6];exact Sim.ite (Sim.pure' (by simp)) Sim.fail)
 · intro S a S' h;cases d <;> cases h
theorem qacu (ds:List D):Sim P (D.sh P.length) (qsx ds) (qsx (ds.map (D.sh P.length))):=by
 have ht:∀ d:D,qny (d.sh P.length)=qny d:=by intro d;cases d <;> simp [qny]
 rcases ds with _ | ⟨d,_ | ⟨t,_ | ⟨_,_⟩⟩⟩
 · exact Sim.fail
 · exact Sim.fail
 · cases t <;> first | exact Sim.fail | skip
   intro S a S' e
   simp only [List.map_cons,List.map_nil,qw5,qsx]at e ⊢
   rw[qaw,ht]
   cases e1:qny (look d S)with
   | none=>rw[e1]at e;cases e
   | some u =>
     rw[e1]at e
     exact(Sim.ite (Sim.pure' (by simp)) Sim.fail:Sim P (D.sh P.length) _ _) _ _ _ e
 · intro S a S' h;cases t <;> cases h
theorem q4l {new:Bool} (ds:List D):Sim P (D.sh P.length) (qfl new ds) (qfl new (ds.map (D.sh P.length))):=by
 rcases ds with _ | ⟨d,_ | ⟨e,r⟩⟩ <;> first | exact Sim.fail | skip
 intro S a S' e
 simp only [List.map_cons,List.map_nil,qfl]at e ⊢
 rw[qaw]
 cases e1:look d S <;> rw[e1]at e <;> first | (cases e;done) | skip
 simp only [qd4];exact qbn (qt2 _).symm _ _ _ e
theorem q1n {new:Bool} (ds:List D):Sim P (D.sh P.length) (qf3 new ds) (qf3 new (ds.map (D.sh P.length))):=by
 rcases ds with _ | ⟨d,_ | ⟨e,r⟩⟩ <;> first | exact Sim.fail | skip
 intro S a S' e
 simp only [List.map_cons,List.map_nil,qf3]at e ⊢
 rw[qaw]
 cases e1:look d S <;> rw[e1]at e <;> first | (cases e;done) | skip
 case lst xs =>
   simp only [qa6,qda]at e ⊢
   cases e2:intsOf xs with
   | none=>rw[e2]at e;cases e
   | some ns =>
     rw[e2]at e
     dsimp only at e ⊢
     split at e
     · rename_i hz
       rw[if_pos hz];exact qbn (qt3 _).symm _ _ _ e
     · cases e
 case dct ks xs =>
   simp only [qd4]at e ⊢
   cases e2:intsOf (ks.map qhs)with
   | none=>rw[e2]at e;cases e
   | some ns =>
     rw[e2]at e
     dsimp only at e ⊢
     split at e
     · rename_i hz
       rw[if_pos hz];exact qbn (qt3 _).symm _ _ _ e
     · cases e
theorem q1o (d:D):Sim P (D.sh P.length) (qgp d) (qgp (d.sh P.length)):=by
 intro S a S' e
 unfold qgp at e ⊢
 rw[qaw]
 cases e1:look d S <;> rw[e1]at e <;> first | (cases e;done) | skip
 rename_i xs
 simp only [qa6,qda]at e ⊢
 cases e2:intsOf xs with
 | none=>rw[e2]at e;cases e
 | some ns =>
   rw[e2]at e
   exact(Sim.ite (Sim.pure' (by simp)) Sim.fail:Sim P (D.sh P.length) _ _) _ _ _ e
theorem s_bi (b:Bi) (ds:List D):Sim P (D.sh P.length) (biF b ds) (biF b (ds.map (D.sh P.length))):=by
 cases b with
 | len=>exact qaco ds
 | sum=>exact qrl qacp ds
 | all=>exact qrl qacq ds
 | any=>exact qrl qacr ds
 | min=>exact qacs ds
 | max=>exact qact ds
 | list new=>exact q9a ds
 | tuple=>exact q9b ds
 | int=>exact q9c ds
 | str=>exact q9d ds
 | isi=>exact qacu ds
 | keys new=>exact q4l ds
 | sorted new=>exact q1n ds
theorem qig {o:D} {g g':List D→Option (D × List D)} (h:∀ xs d ys,g xs=some (d,ys)→g' (xs.map (D.sh P.length))=some (d.sh P.length,ys.map (D.sh P.length))):Sim P (D.sh P.length) (qbs o g) (qbs (o.sh P.length) g'):=by
 intro S a S' e
 unfold qbs at e ⊢
 cases o <;> first | (cases e;done) | skip
 rename_i l
 simp only [qdt]at e ⊢
 rw[qie]
 cases e1:S[l]? with
 | none=>rw[e1]at e;cases e
 | some c =>
   rw[e1]at e
   cases c <;> first | (cases e;done) | skip
   rename_i xs
   dsimp only at e
   cases e2:g xs with
   | none=>rw[e2]at e;cases e
   | some p =>
     obtain ⟨d,ys⟩:=p
     rw[e2]at e
     cases e
     simp only [Option.map_some,Cell.sh,h _ _ _ e2]
     have:=qrh (P:=P) (S:=S) (l:=l) (c:=.lst ys)
     rw[Cell.sh]at this
     rw[this]
theorem s_mt (m:Mt) (o:D) (ds:List D):Sim P (D.sh P.length) (mtF m o ds) (mtF m (o.sh P.length) (ds.map (D.sh P.length))):=by
 cases m with
 | append =>
   rcases ds with _ | ⟨d,_ | ⟨e,r⟩⟩ <;> first | exact Sim.fail | skip
   refine qig fun xs d' ys h=> ?_
   split at h
   · rename_i hz;cases h;rw[List.length_map,if_pos hz];simp
   · cases h
 | insert =>
   rcases ds with _ | ⟨d,_ | ⟨e,_ | ⟨_,_⟩⟩⟩
   · exact Sim.fail
   · intro S a S' h;cases d <;> cases h
   · cases d <;> first | exact Sim.fail | skip
     rename_i j
     simp only [List.map_cons,List.map_nil,qab]
     refine qig fun xs d' ys h=> ?_
     split at h
     · rename_i hz;cases h;rw[List.length_map,if_pos hz];simp [List.map_take,List.map_drop]
     · cases h
   · intro S a S' h;cases d <;> cases h
 | pop =>
   rcases ds with _ | ⟨d,r⟩ <;> first | exact Sim.fail | skip
   refine qig fun xs d' ys h=> ?_
   rw[List.getLast?_map]
   cases e:xs.getLast? with
   | none=>rw[e]at h;cases h
   | some x=>rw[e]at h;cases h;simp [List.map_dropLast]
 | clear =>
   rcases ds with _ | ⟨d,r⟩ <;> first | exact Sim.fail | skip
   show Sim P (D.sh P.length) (qbs o fun _=>some (.non,[])) (qbs (o.sh P.length) fun _=>some (.non,[]))
   refine qig fun xs d' ys h=> ?_
   cases h;simp
 | join =>
   intro S a S' e
   cases o <;> first | (cases e;done) | skip
   rcases ds with _ | ⟨d,_ | ⟨y,r⟩⟩ <;> first | (cases e;done) | skip
   simp only [List.map_cons,List.map_nil,qe0,mtF,joinM]at e ⊢
   rw[qaw]
   cases e1:look d S <;> rw[e1]at e <;> first | (cases e;done) | skip
   rename_i xs
   simp only [qa6,qpq]at e ⊢
   cases e2:strsOf xs with
   | none=>rw[e2]at e;cases e
   | some ns =>
     rw[e2]at e
     exact(Sim.ite (Sim.pure' (by simp)) Sim.fail:Sim P (D.sh P.length) _ _) _ _ _ e
 | index =>
   intro S a S' e
   simp only [mtF,qqi]at e ⊢
   rw[qaw]
   cases e1:look o S <;> rw[e1]at e <;> first | (cases e;done) | skip
   rename_i xs
   rcases ds with _ | ⟨d,_ | ⟨y,r⟩⟩
   · cases e
   · cases d <;> first | (cases e;done) | skip
     rename_i k
     simp only [List.map_cons,List.map_nil,qab,qa6,qda]at e ⊢
     cases e2:intsOf xs with
     | none=>rw[e2]at e;cases e
     | some ns =>
       rw[e2]at e
       dsimp only at e ⊢
       cases e3:qss k ns with
       | none=>rw[e3]at e;cases e
       | some j=>rw[e3]at e;cases e;simp
   · cases d <;> cases e
theorem qacv (m:Mt) (d:D):mtT m (d.sh P.length)=mtT m d:=by
 cases m <;> cases d <;> simp [mtT,isL,isS]
end
noncomputable def Fl.sh (n:Nat):Fl→Fl
 | .nx=>.nx
 | .rt d=>.rt (d.sh n)
 | .bk=>.bk
 | .ct=>.ct
noncomputable abbrev rS (n:Nat) (r:Fl × Env):Fl × Env:=(r.1.sh n,eS n r.2)
noncomputable abbrev qoh (n:Nat) (src:Src):Src:=src.map fun p=>(p.1+n,p.2.sh n)
noncomputable abbrev iS (n:Nat) (r:List D × Src):List D × Src:=(r.1.map (D.sh n),qoh n r.2)
section
variable {P:Sto}
theorem qkd {n:Nat} {Γ:Env} {i:Nat} {d:D}:(eS n Γ).set i (some (d.sh n))=eS n (Γ.set i (some d)):=by simp [eS,List.map_set]
theorem qrm {n k:Nat} {Γ:Env}:List.replicate k none++eS n Γ=eS n (List.replicate k none++Γ):=by simp [eS]
theorem qd0 {src:Src}:Sim P id (guard src) (guard (qoh P.length src)):=by
 intro S a S' e
 unfold guard at e
 by_cases h:qag src S
 · rw[if_pos h]at e
   cases e
   refine qso fun p hp=> ?_
   obtain ⟨q,hq,rfl⟩:=List.mem_map.mp hp
   dsimp only
   rw[qie,h q hq];rfl
 · rw[if_neg h]at e;cases e
theorem qlg (d:D):Sim P (iS P.length) (qo d) (qo (d.sh P.length)):=by
 intro S a S' e
 unfold qo at e ⊢
 cases d <;> first | (cases e;done) | skip
 case ref l =>
   simp only [qdt]at e ⊢
   rw[qie]
   cases e1:S[l]? with
   | none=>rw[e1]at e;cases e
   | some c =>
     rw[e1]at e
     cases c <;> first | (cases e;done) | skip
     cases e;simp [Cell.sh]
 case lst xs=>cases e;simp
 case tup xs=>cases e;simp
theorem q1p (d:D):Sim P (iS P.length) (qem d) (qem (d.sh P.length)):=by
 cases d <;> first | exact Sim.fail | skip
 simp only [qd4,qem]
 exact Sim.pure' (by simp only [iS,qoh,List.map_nil,qt2])
theorem q1q (ds:List D):Sim P (iS P.length) (qd3 ds) (qd3 (ds.map (D.sh P.length))):=by
 rcases ds with _ | ⟨d,_ | ⟨e,r⟩⟩
 · exact Sim.fail
 · cases d <;> first | exact Sim.fail | (simp only [List.map_cons,List.map_nil,qab,qd3];exact Sim.ite (Sim.pure' (by simp only [iS,qoh,List.map_nil,qw8])) Sim.fail)
 · intro S a S' h;cases d <;> cases h
theorem q1r (ds:List D):Sim P (iS P.length) (qgo ds) (qgo (ds.map (D.sh P.length))):=by
 rcases ds with _ | ⟨d,_ | ⟨e,_ | ⟨_,_⟩⟩⟩
 · exact Sim.fail
 · intro S a S' h;cases d <;> cases h
 · cases d <;> cases e <;> first | exact Sim.fail | (simp only [List.map_cons,List.map_nil,qab,qgo];exact Sim.ite (Sim.pure' (by simp only [iS,qoh,List.map_nil,qw8])) Sim.fail)
 · intro S a S' h;cases d <;> cases e <;> cases h
theorem q1s (ds:List D):Sim P (iS P.length) (qcl ds) (qcl (ds.map (D.sh P.length))):=by
 rcases ds with _ | ⟨d,_ | ⟨e,r⟩⟩ <;> first | exact Sim.fail | skip
 simp only [List.map_cons,List.map_nil,qcl]
 refine Sim.bind (qlg d) fun r=> ?_
 cases d <;> first | exact Sim.fail | skip
 all_goals first | simp only [qdt,qa6,qd4,qvl,qrg,qtz,qab,qe0,qw5,q1m] | skip
 all_goals exact Sim.pure' (by simp only [iS,qyq])
theorem q4m (ds:List D):Sim P (iS P.length) (qd7 ds) (qd7 (ds.map (D.sh P.length))):=by
 rcases ds with _ | ⟨d,_ | ⟨e,_ | ⟨_,_⟩⟩⟩ <;> first | exact Sim.fail | skip
 simp only [List.map_cons,List.map_nil,qd7]
 refine Sim.bind (qlg d) fun r=>Sim.bind (qlg e) fun r'=>Sim.pure' (by simp only [iS,qt1,qoh,List.map_append])
theorem q1t {o i v:D}:Sim P id (setM o i v) (setM (o.sh P.length) (i.sh P.length) (v.sh P.length)):=by
 intro S a S' e
 unfold setM at e ⊢
 cases o <;> first | (cases e;done) | skip
 rename_i l
 simp only [qdt]at e ⊢
 rw[qie]
 cases e1:S[l]? with
 | none=>rw[e1]at e;cases e
 | some c =>
   rw[e1]at e
   cases c <;> first | (cases e;done) | skip
   case lst xs =>
     cases i <;> first | (cases e;done) | skip
     rename_i k
     simp only [Option.map_some,Cell.sh,qab,List.length_map]at e ⊢
     cases e2:ixN xs.length k with
     | none=>rw[e2]at e;cases e
     | some j =>
       rw[e2]at e
       cases e
       have:=qrh (P:=P) (S:=S) (l:=l) (c:=.lst (xs.set j v))
       rw[Cell.sh,List.map_set]at this
       dsimp only
       rw[this]
   case dct ks xs =>
     simp only [Option.map_some,Cell.sh,qif]at e ⊢
     cases e2:keyOf i with
     | none=>rw[e2]at e;cases e
     | some k =>
       rw[e2]at e
       dsimp only at e ⊢
       split at e
       · rename_i hz
         cases e
         have:=qrh (P:=P) (S:=S) (l:=l) (c:=.dct (qbl ks k) (qaz ks xs k v))
         rw[Cell.sh,← qps]at this
         rw[if_pos hz,this]
       · cases e
theorem s_ip {op:Operator} (x y:D):Sim P (D.sh P.length) (ipD op x y) (ipD op (x.sh P.length) (y.sh P.length)):=by
 cases op <;> first | exact Sim.fail | exact q5h x y | skip
 cases x <;> cases y <;> first | exact Sim.fail | (simp only [qab,ipD];exact Sim.pure' (by simp))
theorem qacx {o i:D}:Sim P (D.sh P.length) (ixW o i) (ixW (o.sh P.length) (i.sh P.length)):=by
 cases o <;> first | exact Sim.fail | skip
 rename_i l
 simp only [qdt,ixW]
 have:=Sim.seeing (P:=P) (f:=D.sh P.length) (d:=.ref l) (k:=fun z=>ixM z i) (k':=fun z=>ixM z (i.sh P.length)) (fun z=>q5i z i)
 rwa [qdt]at this
mutual
theorem q5j:∀ (n:Nat) (d:D) (S:Sto) (e:D) (S':Sto),frz n d S=some (e,S')→frz n (d.sh P.length) (up P S)=some (e.sh P.length,up P S')
 | 0,d,S,e,S',h=>by
   cases d <;> simp only [frz,qdt,qa6,qez,qd4,qvl,qrg,qtz,qab,qe0,qw5,q1m]at h ⊢ <;> first | (cases h;done) | (cases h;simp)
 | n + 1,d,S,e,S',h=>by
   cases d <;> simp only [frz,qdt,qa6,qez,qd4,qvl,qrg,qtz,qab,qe0,qw5,q1m]at h ⊢ <;> first | (cases h;simp;done) | skip
   rename_i l
   rw[qie]
   cases e1:S[l]? with
   | none=>rw[e1]at h;cases h
   | some c =>
     rw[e1]at h
     have gone:∀ S1:Sto,(up P S1).set (l+P.length) .gone=up P (S1.set l .gone):=fun S1=>qrh (P:=P) (S:=S1) (l:=l) (c:=.gone)
     cases c <;> first | (cases h;done) | skip
     all_goals
       rename_i xs
       simp only [Option.map_some,Cell.sh]at h ⊢
       cases e2:frzs n xs S with
       | none=>rw[e2]at h;cases h
       | some p =>
         obtain ⟨ys,S1⟩:=p
         rw[e2]at h
         have k1:=q1u n xs S ys S1 e2
         cases h
         rw[k1]
         simp [gone]
theorem q1u:∀ (n:Nat) (ds:List D) (S:Sto) (es:List D) (S':Sto),frzs n ds S=some (es,S')→frzs n (ds.map (D.sh P.length)) (up P S)=some (es.map (D.sh P.length),up P S')
 | n,[],S,es,S',h=>by
   rw[frzs]at h;cases h
   simp [frzs]
 | n,d::ds,S,es,S',h=>by
   rw[frzs]at h
   rw[List.map_cons,frzs]
   cases e1:frz n d S with
   | none=>rw[e1]at h;cases h
   | some p =>
     obtain ⟨x,S1⟩:=p
     rw[e1]at h
     dsimp only at h
     cases e2:frzs n ds S1 with
     | none=>rw[e2]at h;cases h
     | some q =>
       obtain ⟨xs,S2⟩:=q
       rw[e2]at h
       have k1:=q5j n d S x S1 e1
       have k2:=q1u n ds S1 xs S2 e2
       cases h
       rw[k1]
       dsimp only
       rw[k2]
       simp
end
theorem q1v (d:D):Sim P (D.sh P.length) (qd8 d) (qd8 (d.sh P.length)):=by
 intro S a S' h
 unfold qd8 at h ⊢
 cases e1:frz 3 d S with
 | none=>rw[e1]at h;cases h
 | some p =>
   obtain ⟨x,S1⟩:=p
   rw[e1]at h
   have k1:=q5j (P:=P) 3 d S x S1 e1
   cases h
   rw[k1]
end
section
variable {P:Sto}
noncomputable abbrev SE (P:Sto) (f:Env→M D):Prop:=∀ Γ,Sim P (D.sh P.length) (f Γ) (f (eS P.length Γ))
noncomputable abbrev SB (P:Sto) (f:Env→M Bool):Prop:=∀ Γ,Sim P id (f Γ) (f (eS P.length Γ))
noncomputable abbrev SA (P:Sto) (f:Env→M (List D)):Prop:=∀ Γ,Sim P (List.map (D.sh P.length)) (f Γ) (f (eS P.length Γ))
noncomputable abbrev SO (P:Sto) (f:Env→M (Option Int)):Prop:=∀ Γ,Sim P id (f Γ) (f (eS P.length Γ))
noncomputable abbrev SI (P:Sto) (f:MI):Prop:=∀ Γ,Sim P (iS P.length) (f Γ) (f (eS P.length Γ))
noncomputable abbrev SG (P:Sto) (f:D→Env→M Env):Prop:=∀ d Γ,Sim P (eS P.length) (f d Γ) (f (d.sh P.length) (eS P.length Γ))
noncomputable abbrev SGs (P:Sto) (f:List D→Env→M Env):Prop:=∀ ds Γ,Sim P (eS P.length) (f ds Γ) (f (ds.map (D.sh P.length)) (eS P.length Γ))
noncomputable abbrev SS (P:Sto) (f:MS):Prop:=∀ Γ,Sim P (rS P.length) (f Γ) (f (eS P.length Γ))
noncomputable def SF (F:Fd):Prop:=∀ (P:Sto) ds,Sim P (D.sh P.length) (F ds) (F (ds.map (D.sh P.length)))
theorem Sim.noErr {α:Type} {f:α→α} {m m':M α} (h:Sim P f m m'):Sim P f (noErr m) (noErr m'):=by
 intro S a S' e
 unfold T3.noErr at e ⊢
 cases e1:m S with
 | ok b S1=>rw[e1]at e;cases e;rw[h _ _ _ e1]
 | err x S1=>rw[e1]at e;cases e
 | no=>rw[e1]at e;cases e
theorem q9e {g h:MS} (hg:SS P g) (hh:SS P h):SS P (seqS g h):=fun Γ=>Sim.bind (hg Γ) fun r=>by
 obtain ⟨fl,Γ1⟩:=r
 cases fl
 · exact hh Γ1
 all_goals exact Sim.pure
theorem qacy {c:Env→M Bool} {g h:MS} (hc:SB P c) (hg:SS P g) (hh:SS P h):SS P (ifS c g h):=fun Γ=>Sim.bind (hc Γ) fun b=>Sim.ite (hg Γ) (hh Γ)
theorem q4n {n:Nat} {r:List D→Env→M Env} (hr:SGs P r):SG P (qu5 n r):=by
 intro d Γ S a S' e
 unfold qu5 at e ⊢
 rw[qaw]
 cases e1:look d S <;> rw[e1]at e <;> first | (cases e;done) | skip
 all_goals
   simp only [qa6,qez,List.length_map]at e ⊢
   split at e
   · rename_i hz;rw[if_pos hz];exact hr _ _ _ _ _ e
   · cases e
theorem qrn {src:Src} {hd:D→Env→M Env} {body:MS} (hh:SG P hd) (hb:SS P body):∀ (ds:List D) (Γ:Env),Sim P (rS P.length) (forL src hd body ds Γ) (forL (qoh P.length src) hd body (ds.map (D.sh P.length)) (eS P.length Γ))
 | [],Γ=>by
   rw[List.map_nil,forL,forL]
   exact Sim.bind qd0 fun _=>Sim.pure
 | d::ds,Γ=>by
   rw[List.map_cons,forL,forL]
   refine Sim.bind qd0 fun _=>Sim.bind (hh d Γ) fun Γ1=>Sim.bind (hb Γ1) fun r=> ?_
   obtain ⟨fl,Γ2⟩:=r
   cases fl
   · exact qrn hh hb ds Γ2
   · exact Sim.pure
   · exact Sim.pure
   · exact qrn hh hb ds Γ2
theorem q9f {fi:MI} {hd:D→Env→M Env} {body:MS} (hi:SI P fi) (hh:SG P hd) (hb:SS P body):SS P (q3k fi hd body):=fun Γ=>Sim.bind (hi Γ) fun r=>qrn hh hb r.1 Γ
theorem qke {c:Env→M Bool} {body:MS} (hc:SB P c) (hb:SS P body):∀ n,SS P (qk c body n)
 | 0=>fun Γ=>Sim.fail
 | n+1=>fun Γ=>by
   rw[qk,qk]
   refine Sim.bind (hc Γ) fun b=>Sim.ite (Sim.bind (hb Γ) fun r=> ?_) Sim.pure
   obtain ⟨fl,Γ2⟩:=r
   cases fl
   · exact qke hc hb n Γ2
   · exact Sim.pure
   · exact Sim.pure
   · exact qke hc hb n Γ2
theorem qf9 {c:Env→M Bool} {body:MS}:∀ (n m:Nat) (Γ:Env) (S:Sto),n≤m→qk c body n Γ S ≠ .no→qk c body m Γ S=qk c body n Γ S
 | 0,_,_,_,_,h=>absurd rfl h
 | n+1,0,_,_,hm,_=>by omega
 | n + 1,m+1,Γ,S,hm,h=>by
   rw[qk]at h
   rw[qk,qk]
   unfold M.bind at h ⊢
   cases e1:c Γ S with
   | no=>rfl
   | err x S1=>rfl
   | ok b S1 =>
     rw[e1]at h
     dsimp only at h ⊢
     cases b with
     | false=>rfl
     | true =>
       rw[if_pos rfl]at h
       rw[if_pos rfl,if_pos rfl]
       cases e2:body Γ S1 with
       | no=>rfl
       | err x S2=>rfl
       | ok r S2 =>
         rw[e2]at h
         obtain ⟨fl,Γ2⟩:=r
         cases fl
         · exact qf9 n m Γ2 S2 (by omega) h
         · rfl
         · rfl
         · exact qf9 n m Γ2 S2 (by omega) h
theorem qyr {c:Env→M Bool} {body:MS} {n:Nat} {Γ:Env} {S:Sto} (h:qk c body n Γ S ≠ .no):qdi c body Γ S=qk c body n Γ S:=by
 have hx:∃ n,qk c body n Γ S ≠ .no:=⟨n,h⟩
 unfold qdi
 rw[dif_pos hx]
 rcases Nat.le_total n hx.choose with k | k
 · exact qf9 _ _ _ _ k h
 · exact(qf9 _ _ _ _ k hx.choose_spec).symm
theorem q1w {c:Env→M Bool} {body:MS} (hc:SB P c) (hb:SS P body):SS P (qdi c body):=by
 intro Γ S a S' e
 unfold qdi at e
 by_cases hx:∃ n,qk c body n Γ S ≠ .no
 · rw[dif_pos hx]at e
   have k:=qke hc hb hx.choose Γ _ _ _ e
   rw[qyr (n:=hx.choose) (by rw[k];exact fun z=>by cases z),k]
 · rw[dif_neg hx]at e;cases e
theorem qro {src:Src} {n:Nat} {hd:D→Env→M Env} {cond:Env→M Bool} {elt:Env→M D} {Γ:Env} (hh:SG P hd) (hc:SB P cond) (he:SE P elt):∀ (ds acc:List D),Sim P (List.map (D.sh P.length)) (lcA src n hd cond elt Γ acc ds) (lcA (qoh P.length src) n hd cond elt (eS P.length Γ) (acc.map (D.sh P.length)) (ds.map (D.sh P.length)))
 | [],acc=>by
   rw[List.map_nil,lcA,lcA]
   exact Sim.bind qd0 fun _=>Sim.pure
 | d::ds,acc=>by
   rw[List.map_cons,lcA,lcA,qrm]
   refine Sim.bind qd0 fun _=>Sim.bind (hh d _) fun Γ1=>Sim.bind (hc Γ1) fun b=>Sim.ite (Sim.bind (he Γ1) fun y=> ?_) (qro hh hc he ds acc)
   have:=qro (src:=src) (n:=n) (Γ:=Γ) hh hc he ds (acc++[y])
   rwa [List.map_append,List.map_cons,List.map_nil]at this
theorem qacz {new:Bool} {n:Nat} {fi:MI} {hd:D→Env→M Env} {cond:Env→M Bool} {elt:Env→M D} (hi:SI P fi) (hh:SG P hd) (hc:SB P cond) (he:SE P elt):SE P (lcD new n fi hd cond elt):=fun Γ=>Sim.bind (hi Γ) fun r=>by
 rw[List.length_map]
 exact Sim.ite (Sim.bind (Sim.noErr (qro hh hc he r.1 [])) fun ds=>qbn rfl) Sim.fail
theorem qw9 {src:Src} {n n2:Nat} {hd:D→Env→M Env} {fi2:MI} {hd2:D→Env→M Env} {cond:Env→M Bool} {elt:Env→M D} {Γ:Env} (hh:SG P hd) (hi:SI P fi2) (hh2:SG P hd2) (hc:SB P cond) (he:SE P elt):∀ (ds acc:List D),Sim P (List.map (D.sh P.length)) (qky src n n2 hd fi2 hd2 cond elt Γ acc ds) (qky (qoh P.length src) n n2 hd fi2 hd2 cond elt (eS P.length Γ) (acc.map (D.sh P.length)) (ds.map (D.sh P.length)))
 | [],acc=>by
   rw[List.map_nil,qky,qky]
   exact Sim.bind qd0 fun _=>Sim.pure
 | d ::ds,acc=>by
   rw[List.map_cons,qky,qky,qrm]
   refine Sim.bind qd0 fun _=>Sim.bind (hh d _) fun Γ1=>Sim.bind (hi Γ1) fun r=> ?_
   simp only [iS,List.length_map]
   refine Sim.ite (Sim.bind (f:=List.map (D.sh P.length)) ?_ fun acc'=> ?_) Sim.fail
   · have:=qro (src:=r.2) (n:=n2) (Γ:=Γ1.drop n2) hh2 hc he r.1 acc
     rwa [eS,List.map_drop]at this
   · rw[List.length_map]
     exact Sim.ite (qw9 hh hi hh2 hc he ds acc') Sim.fail
theorem q9g {n n2:Nat} {fi:MI} {hd:D→Env→M Env} {fi2:MI} {hd2:D→Env→M Env} {cond:Env→M Bool} {elt:Env→M D} (hf:SI P fi) (hh:SG P hd) (hi:SI P fi2) (hh2:SG P hd2) (hc:SB P cond) (he:SE P elt):SE P (q8g n n2 fi hd fi2 hd2 cond elt):=fun Γ=>Sim.bind (hf Γ) fun r=>Sim.bind (Sim.noErr (qw9 hh hi hh2 hc he r.1 [])) fun ds=>Sim.pure' (by simp)
theorem qvp {src:Src} {n:Nat} {hd:D→Env→M Env} {cond:Env→M Bool} {fk fv:Env→M D} {Γ:Env} (hh:SG P hd) (hc:SB P cond) (hk:SE P fk) (hv:SE P fv):∀ (ds:List D) (ks:List Key) (xs:List D),Sim P (fun p=>(p.1,p.2.map (D.sh P.length))) (dcA src n hd cond fk fv Γ ks xs ds) (dcA (qoh P.length src) n hd cond fk fv (eS P.length Γ) ks (xs.map (D.sh P.length)) (ds.map (D.sh P.length)))
 | [],ks,xs=>by
   rw[List.map_nil,dcA,dcA]
   exact Sim.bind qd0 fun _=>Sim.pure' rfl
 | d ::ds,ks,xs=>by
   rw[List.map_cons,dcA,dcA,qrm]
   refine Sim.bind qd0 fun _=>Sim.bind (hh d _) fun Γ1=>Sim.bind (hc Γ1) fun b=>Sim.ite (Sim.bind (hk Γ1) fun k=>Sim.bind (hv Γ1) fun y=> ?_) (qvp hh hc hk hv ds ks xs)
   rw[qif]
   cases keyOf k with
   | none=>exact Sim.fail
   | some j =>
     dsimp only
     rw[qps]
     exact qvp hh hc hk hv ds _ _
theorem qac0 {new:Bool} {n:Nat} {fi:MI} {hd:D→Env→M Env} {cond:Env→M Bool} {fk fv:Env→M D} (hi:SI P fi) (hh:SG P hd) (hc:SB P cond) (hk:SE P fk) (hv:SE P fv):SE P (dcD new n fi hd cond fk fv):=fun Γ=>Sim.bind (hi Γ) fun r=>by
 rw[List.length_map]
 refine Sim.ite (Sim.bind (Sim.noErr (qvp hh hc hk hv r.1 [] [])) fun p=> ?_) Sim.fail
 have:=s_alloc (P:=P) (new:=new) (d:=.dct p.1 p.2)
 rwa [qd4]at this
end
section
variable {Φ:List Fd} {fns:List (Str × Nat × Nat)} {P:Sto}
theorem q1x (hΦ:∀ F ∈ Φ,SF F) (j:Nat) (ds:List D):Sim P (D.sh P.length) (qg Φ fns j ds) (qg Φ fns j (ds.map (D.sh P.length))):=by
 unfold qg
 cases e1:Φ[j]? with
 | none=>exact Sim.fail
 | some F=>cases e2:fns[j]? with
   | none=>exact Sim.fail
   | some t =>
     obtain ⟨x,n,k⟩:=t
     dsimp only
     unfold qp
     rw[List.length_map]
     split
     · exact hΦ F (List.mem_of_getElem? e1) P ds
     · exact Sim.fail
variable (hΦ:∀ F ∈ Φ,SF F)
include hΦ
mutual
theorem mE:∀ e:CE,SE P (evE Φ fns e)
 | .var i=>fun Γ=>by rw[evE];exact qvo
 | .int i=>fun Γ=>by rw[evE];exact Sim.pure' (by simp)
 | .str x=>fun Γ=>by rw[evE];exact Sim.pure' (by simp)
 | .bl b=>fun Γ=>by rw[evE];exact Sim.pure' (by simp)
 | .non=>fun Γ=>by rw[evE];exact Sim.pure' (by simp)
 | .ty n=>fun Γ=>by rw[evE];exact Sim.pure' (by simp)
 | .bin new op a b=>fun Γ=>by rw[evE];exact Sim.bind (mE a Γ) fun x=>Sim.bind (mE b Γ) fun y=>qace x y
 | .neg a=>fun Γ=>by rw[evE];exact Sim.bind (mE a Γ) fun x=>qaci
 | .cmp op a b=>fun Γ=>by rw[evE];exact Sim.bind (mE a Γ) fun x=>Sim.bind (mE b Γ) fun y=>qpt x y
 | .chain o p a b c=>fun Γ=>by
   rw[evE]
   exact Sim.bind (mE a Γ) fun x=>Sim.bind (mE b Γ) fun y=>Sim.bind (qpt x y) fun z=>Sim.bind qnf fun w=>Sim.ite (Sim.bind (mE c Γ) fun u=>qpt y u) (Sim.pure' (by simp))
 | .and a b=>fun Γ=>by rw[evE];exact Sim.bind (mE a Γ) fun x=>Sim.bind qnf fun w=>Sim.ite (mE b Γ) (Sim.pure' (by simp))
 | .or a b=>fun Γ=>by rw[evE];exact Sim.bind (mE a Γ) fun x=>Sim.bind qnf fun w=>Sim.ite (Sim.pure' (by simp)) (mE b Γ)
 | .not a=>fun Γ=>by rw[evE];exact Sim.bind (mE a Γ) fun x=>Sim.bind qnf fun w=>Sim.pure' (by simp)
 | .one a=>fun Γ=>by rw[evE];exact mE a Γ
 | .ife c a b=>fun Γ=>by rw[evE];exact Sim.bind (mB c Γ) fun w=>Sim.ite (mE a Γ) (mE b Γ)
 | .tup as=>fun Γ=>by rw[evE];exact Sim.bind (mA as Γ) fun x=>qacl
 | .lst new as=>fun Γ=>by rw[evE];exact Sim.bind (mA as Γ) fun x=>qacm
 | .dnil new=>fun Γ=>by
   rw[evE]
   have:=s_alloc (P:=P) (new:=new) (d:=.dct [] [])
   rwa [qd4,List.map_nil]at this
 | .ix a i=>fun Γ=>by rw[evE];exact Sim.bind (mE a Γ) fun x=>Sim.bind (mE i Γ) fun y=>Sim.seeing (k:=fun z=>ixM z y) (k':=fun z=>ixM z (y.sh P.length)) fun z=>q5i z y
 | .sl new a lo hi=>fun Γ=>by rw[evE];exact Sim.bind (mE a Γ) fun x=>Sim.bind (mO lo Γ) fun l=>Sim.bind (mO hi Γ) fun h=>Sim.seeing (k:=fun z=>slM new z l h) (k':=fun z=>slM new z l h) fun z=>qacn
 | .call j as=>fun Γ=>by rw[evE];exact Sim.bind (mA as Γ) fun ds=>q1x hΦ j ds
 | .bi b as=>fun Γ=>by rw[evE];exact Sim.bind (mA as Γ) fun ds=>s_bi b ds
 | .mt m o as=>fun Γ=>by
   rw[evE]
   refine Sim.bind (mE o Γ) fun x=>Sim.seeing (k:=fun z=>if mtT m z=true then M.bind (evA Φ fns as Γ) (mtF m x)else M.fail) (k':=fun z=>if mtT m z=true then M.bind (evA Φ fns as (eS P.length Γ)) (mtF m (x.sh P.length))else M.fail) fun z=> ?_
   rw[qacv]
   exact Sim.ite (Sim.bind (mA as Γ) fun ds=>s_mt m x ds) Sim.fail
 | .lc new n t i c e=>by rw[evE];exact qacz (mI i) (mG t) (mF c) (mE e)
 | .dc new n t i c k e=>by rw[evE];exact qac0 (mI i) (mG t) (mF c) (mE k) (mE e)
 | .frz a=>fun Γ=>by rw[evE];exact Sim.bind (mE a Γ) fun x=>q1v x
 | .lset a=>fun Γ=>by rw[evE];exact Sim.bind (mE a Γ) fun x=>q1o x
 | .lc2 n n2 t i t2 i2 c e=>by rw[evE];exact q9g (mI i) (mG t) (mI i2) (mG t2) (mF c) (mE e)
theorem mB:∀ e:CB,SB P (evB Φ fns e)
 | .cmp op a b=>fun Γ=>by rw[evB];exact Sim.bind (Sim.bind (mE a Γ) fun x=>Sim.bind (mE b Γ) fun y=>qpt x y) fun z=>qnf
 | .chain o p a b c=>fun Γ=>by
   rw[evB]
   exact Sim.bind (Sim.bind (mE a Γ) fun x=>Sim.bind (mE b Γ) fun y=>Sim.bind (qpt x y) fun z=>Sim.bind qnf fun w=>Sim.ite (Sim.bind (mE c Γ) fun u=>qpt y u) (Sim.pure' (by simp))) fun z=>qnf
 | .and a b=>fun Γ=>by rw[evB];exact Sim.bind (mB a Γ) fun w=>Sim.ite (mB b Γ) (Sim.pure' rfl)
 | .or a b=>fun Γ=>by rw[evB];exact Sim.bind (mB a Γ) fun w=>Sim.ite (Sim.pure' rfl) (mB b Γ)
 | .one a=>fun Γ=>by rw[evB];exact mB a Γ
 | .not a=>fun Γ=>by rw[evB];exact Sim.bind (mB a Γ) fun w=>Sim.pure' rfl
 | .tru a=>fun Γ=>by rw[evB];exact Sim.bind (mE a Γ) fun x=>qack
theorem mF:∀ e:CF,SB P (evF Φ fns e)
 | .yes=>fun Γ=>by rw[evF];exact Sim.pure' rfl
 | .if_ a=>fun Γ=>by rw[evF];exact mB a Γ
theorem mA:∀ e:CL,SA P (evA Φ fns e)
 | .nil=>fun Γ=>by rw[evA];exact Sim.pure' rfl
 | .cons a r=>fun Γ=>by rw[evA];exact Sim.bind (mE a Γ) fun x=>Sim.bind (mA r Γ) fun xs=>Sim.pure' rfl
theorem mO:∀ e:CO,SO P (evO Φ fns e)
 | .no=>fun Γ=>by rw[evO];exact Sim.pure' rfl
 | .at_ a=>fun Γ=>by rw[evO];exact Sim.bind (mE a Γ) fun x=>qacj
theorem mI:∀ e:CI,SI P (evI Φ fns e)
 | .seq a=>fun Γ=>by rw[evI];exact Sim.bind (mE a Γ) fun x=>qlg x
 | .keys a=>fun Γ=>by rw[evI];exact Sim.bind (mE a Γ) fun x=>q1p x
 | .rng1 as=>fun Γ=>by rw[evI];exact Sim.bind (mA as Γ) fun x=>q1q x
 | .rng2 as=>fun Γ=>by rw[evI];exact Sim.bind (mA as Γ) fun x=>q1r x
 | .enum as=>fun Γ=>by rw[evI];exact Sim.bind (mA as Γ) fun x=>q1s x
 | .zip as=>fun Γ=>by rw[evI];exact Sim.bind (mA as Γ) fun x=>q4m x
theorem mG:∀ e:CG,SG P (evG Φ fns e)
 | .nm i=>fun d Γ=>by rw[evG];exact Sim.pure' qkd
 | .tg ts=>by rw[evG];exact q4n (mT ts)
 | .sub o i=>fun d Γ=>by rw[evG];exact Sim.bind (mE o Γ) fun x=>Sim.bind (mE i Γ) fun y=>Sim.bind q1t fun _=>Sim.pure' rfl
theorem mT:∀ e:CT,SGs P (evT Φ fns e)
 | .nil=>fun ds Γ=>by
   rw[evT]
   cases ds with
   | nil=>exact Sim.pure' rfl
   | cons d ds=>exact Sim.fail
 | .cons a r=>fun ds Γ=>by
   rw[evT]
   cases ds with
   | nil=>exact Sim.fail
   | cons d ds=>exact Sim.bind (mG a d Γ) fun Γ1=>mT r ds Γ1
end
mutual
theorem mS:∀ e:CS,SS P (evS Φ fns e)
 | .pass=>fun Γ=>by rw[evS];exact Sim.pure' rfl
 | .ex a=>fun Γ=>by rw[evS];exact Sim.bind (mE hΦ a Γ) fun _=>Sim.pure' rfl
 | .ret a=>fun Γ=>by rw[evS];exact Sim.bind (mE hΦ a Γ) fun _=>Sim.pure' rfl
 | .retN=>fun Γ=>by rw[evS];exact Sim.pure' (by simp [rS,Fl.sh])
 | .sif c a b=>by rw[evS];exact qacy (mB hΦ c) (mSs a) (mSs b)
 | .asg t e=>fun Γ=>by rw[evS];exact Sim.bind (mE hΦ e Γ) fun d=>Sim.bind (mG hΦ t d Γ) fun _=>Sim.pure' rfl
 | .set i e=>fun Γ=>by rw[evS];exact Sim.bind (mE hΦ e Γ) fun d=>Sim.pure' (by rw[qkd];rfl)
 | .par i j as=>fun Γ=>by
   rw[evS]
   refine Sim.bind (mA hΦ as Γ) fun ds=> ?_
   rcases ds with _ | ⟨d,_ | ⟨e,_ | ⟨_,_⟩⟩⟩ <;> first | exact Sim.fail | skip
   exact Sim.pure' (by rw[qkd,qkd];rfl)
 | .aug op i e=>fun Γ=>by rw[evS];exact Sim.bind qvo fun x=>Sim.bind (mE hΦ e Γ) fun y=>Sim.bind (s_ip x y) fun z=>Sim.pure' (by rw[qkd];rfl)
 | .augIx op o i e=>fun Γ=>by rw[evS];exact Sim.bind (mE hΦ o Γ) fun x=>Sim.bind (mE hΦ i Γ) fun y=>Sim.bind qacx fun u=>Sim.bind (mE hΦ e Γ) fun v=>Sim.bind (s_ip u v) fun z=>Sim.bind q1t fun _=>Sim.pure' rfl
 | .sfor t i b=>by rw[evS];exact q9f (mI hΦ i) (mG hΦ t) (mSs b)
 | .swhile c b=>by rw[evS];exact q1w (mB hΦ c) (mSs b)
 | .brk=>fun Γ=>by rw[evS];exact Sim.pure' rfl
 | .cont=>fun Γ=>by rw[evS];exact Sim.pure' rfl
theorem mSs:∀ e:CSL,SS P (qt Φ fns e)
 | .nil=>fun Γ=>by rw[qt];exact Sim.pure' rfl
 | .cons a r=>by rw[qt];exact q9e (mS a) (mSs r)
 | .gh i r=>fun Γ=>by
   rw[qt]
   refine Sim.bind qvo fun x=>Sim.bind (q1v x) fun d=> ?_
   rw[qkd];exact mSs r _
end
theorem qa2 {c:CSL} {m:Nat}:SF (qa9 (qt Φ fns c) m):=by
 intro P ds S a S' e
 unfold qa9 at e ⊢
 have hΓ:(ds.map (D.sh P.length)).map some++List.replicate m none=eS P.length (ds.map some++List.replicate m none):=by simp [eS]
 rw[hΓ]
 cases e1:qt Φ fns c (ds.map some++List.replicate m none) S with
 | no=>rw[e1]at e;cases e
 | err x S1=>rw[e1]at e;cases e
 | ok r S1 =>
   obtain ⟨fl,Γ1⟩:=r
   have k:=mSs (P:=P) hΦ c _ _ _ _ e1
   rw[e1]at e
   cases fl <;> first | (cases e;done) | skip
   · cases e;rw[k];simp [rS,Fl.sh]
   · cases e;rw[k];simp [rS,Fl.sh]
end
theorem qoi:SF qb3:=qa2 fun _ h=>by simp [qhx]at h
theorem qoj:SF qb4:=qa2 fun _ h=>by simp [qhz]at h
theorem qvq:SF qeb:=qa2 fun F h=>by
 simp only [qf6,List.mem_cons,List.not_mem_nil,or_false]at h
 rcases h with rfl | rfl
 · exact qoi
 · exact qoj
theorem qhe:SF qar:=qa2 fun _ h=>by simp [qdx]at h
theorem qvr:SF qec:=qa2 fun _ h=>by simp [qpj]at h
theorem qok:SF qb6:=qa2 fun _ h=>by simp [qh1]at h
theorem qng:SF qcn:=qa2 fun F h=>by
 simp only [qc7,List.mem_cons,List.not_mem_nil,or_false]at h
 rcases h with rfl | rfl | rfl | rfl
 · exact qvq
 · exact qhe
 · exact qvr
 · exact qok
theorem qih:SF qba:=qa2 fun _ h=>by simp [qkq]at h
theorem qys:SF qh2:=qa2 fun _ h=>by simp [qtm]at h
theorem qt4:SF qco:=qa2 fun F h=>by
 simp only [qes,List.mem_cons,List.not_mem_nil,or_false]at h
 rcases h with rfl | rfl
 · exact qng
 · exact qih
theorem qol:SF qbe:=qa2 fun F h=>by
 simp only [qb8,List.mem_cons,List.not_mem_nil,or_false]at h
 rcases h with rfl | rfl | rfl
 · exact qng
 · exact qih
 · exact qys
theorem SF.all {F:Fd} (h:SF F) {ds:List D} (hd:∀ n,ds.map (D.sh n)=ds) {Q:D→Sto→Prop} (h0:Ok (F ds []) Q):∃ r T,Q r T∧∀ S,F ds S=.ok (r.sh S.length) (up S T):=by
 cases e:F ds []with
 | ok r T =>
   rw[e]at h0
   refine⟨r,T,h0,fun S=> ?_⟩
   have:=h S ds [] r T e
   rw[hd]at this
   simpa [up]using this
 | err x S=>rw[e]at h0;exact False.elim h0
 | no=>rw[e]at h0;exact False.elim h0
theorem qrp {n k:Nat} {f:Nat→D}:(vec n f).map (D.sh k)=vec n fun i=>(f i).sh k:=by
 simp [vec,Function.comp_def]
theorem Mat.up {S T:Sto} {l b n m:Nat} {f:Nat→Nat→D} (h:Mat T l b n m f):Mat (up S T) (l+S.length) (b+S.length) n m fun i j=>(f i j).sh S.length:=by
 refine⟨?_,fun i hi=> ?_,by have:=h.out;omega⟩
 · rw[qie,h.top]
   simp only [Option.map_some,Cell.sh,qrp,qdt]
   congr 4;funext i;congr 1;omega
 · rw[show b+S.length+i=(b+i)+S.length by omega,qie,h.row i hi]
   simp only [Option.map_some,Cell.sh,qrp]
theorem qxa {n k:Nat} {w:Nat→Int}:(qbc n w).sh k=qbc n w:=by
 simp only [qbc,qa6,qrp,qab]
theorem qt5 {k:Nat} (ts:Option (List (Nat × Nat))):(qw ts).sh k=qw ts:=by
 cases ts with
 | none=>simp [qw]
 | some l=>simp [qw,qcg,Function.comp_def]
theorem qrq {n:Nat} {w:Nat→Int} {ts:Option (List (Nat × Nat))} (hn:n≤100) (hw:∀ i < n,0≤w i) (ht:qcs n ts) :
   ∃ f u r G T,Flow n w (qac ts) f u r∧Walk n u f (qac ts) [] G T∧(∀ j ∈ ky T,r j=0) ∧
     ∀ (S:Sto) (P:D→Sto→Prop),(∀ X l b,S.length≤b→S.length≤l→Mat (S++X) l b n n (fun i j=>.int (f i j+f j i))→P (.ref l) (S++X))→Ok (qco [qbc n w,qw ts] S) P:=by
 obtain ⟨d,T0,⟨f,u,r,G,T,l,b,fl,wk,hr,rfl,hM⟩,h⟩:=SF.all qt4 (ds:=[qbc n w,qw ts]) (fun k=>by simp [qxa,qt5])
   (Q:=fun d T0=>∃ f u r G T l b,Flow n w (qac ts) f u r∧Walk n u f (qac ts) [] G T∧(∀ j ∈ ky T,r j=0)∧d=.ref l∧Mat T0 l b n n (fun i j=>.int (f i j+f j i)))
   (qtu hn hw ht fun f u r G T X l b fl wk hr _ _ hM=>⟨f,u,r,G,T,l,b,fl,wk,hr,rfl,by simpa using hM⟩)
 refine⟨f,u,r,G,T,fl,wk,hr,fun S P k=> ?_⟩
 rw[h S,qdt]
 refine k _ _ (b+S.length) (by omega) (by omega) ?_
 have:=hM.up (S:=S)
 simpa using this
theorem qnh {n:Nat} {w:Nat→Int} {ts:Option (List (Nat × Nat))} (hn:n≤100) (hw:∀ i < n,0≤w i) (ht:qcs n ts) :
   ∃ f u r G T,Flow n w (qac ts) f u r∧Walk n u f (qac ts) [] G T∧(∀ j ∈ ky T,r j=0) ∧
     ∀ (S:Sto) (P:D→Sto→Prop),(∀ X l,S.length≤l→(S++X)[l]? =some (.lst (vec n fun i=>.int (hv G T i)))→P (.ref l) (S++X))→Ok (qbe [qbc n w,qw ts] S) P:=by
 obtain ⟨d,T0,⟨f,u,r,G,T,l,fl,wk,hr,rfl,hM⟩,h⟩:=SF.all qol (ds:=[qbc n w,qw ts]) (fun k=>by simp [qxa,qt5])
   (Q:=fun d T0=>∃ f u r G T l,Flow n w (qac ts) f u r∧Walk n u f (qac ts) [] G T∧(∀ j ∈ ky T,r j=0)∧d=.ref l∧T0[l]? =some (.lst (vec n fun i=>.int (hv G T i))))
   (qog hn hw ht fun f u r G T X l fl wk hr _ hM=>⟨f,u,r,G,T,l,fl,wk,hr,rfl,by simpa using hM⟩)
 refine⟨f,u,r,G,T,fl,wk,hr,fun S P k=> ?_⟩
 rw[h S,qdt]
 refine k _ _ (by omega) ?_
 show (up S T0)[l+S.length]? =_
 rw[qie,hM]
 simp only [Option.map_some,Cell.sh,qrp,qab]
theorem qt6 {m n:Nat} {g:Nat→D} {S:Sto} {P:D→Sto→Prop} {x:D} (hx:D.lst (vec n g)=x) (hn:n≤100) (hg:∀ i < n,∀ S (P:D→Sto→Prop),P (.bl true) S→Ok (qq (m+1) [g i,g i] S) P) (k:P (.bl true) S):Ok (qq (m+2) [x,x] S) P:=by
 have i1:∀ S,biF .isi [x,.ty "list"] S=.ok (.bl true) S:=fun _=>by subst hx;rfl
 have i2:∀ S,biF .isi [x,.ty "tuple"] S=.ok (.bl false) S:=fun _=>by subst hx;rfl
 have hl:∀ S,biF .len [x] S=.ok (.int n) S:=fun S=>by
   subst hx
   rw[q83,qav]
 have hz:∀ S,qd7 [x,x] S=.ok (vec n fun i=>.tup [g i,g i],[]) S:=fun S=>by
   subst hx
   simp [qd7,qo,M.bind]
   rw[qw4]
 unfold qq
 refine Ok.run ?_
 unfold qdj
 ((try simp);rw[qa];try simp [i1])
 ((try simp);rw[qa];try simp [i1,i2,q1l])
 ((try simp);rw[qa];try simp)
 rw[hl]
 simp
 rw[hl]
 simp
 rw[hz]
 simp
 refine⟨qz (by omega),qbq (g:=fun _=>.bl true) qv (fun i hi=> ?_) ?_⟩
 · simp
   exact hg i hi _ _ ⟨rfl,rfl⟩
 · rw[qic];simp;exact k
theorem q1y {m n:Nat} {R:Nat→Nat→Int} {S:Sto} {P:D→Sto→Prop} {x:D} (hx:qra n R=x) (hn:n≤100) (k:P (.bl true) S):Ok (qq (m+3) [x,x] S) P :=
 qt6 (m:=m+1) (g:=fun i=>.lst (vec n fun j=>.int (R i j))) hx hn (fun i _ S P k=>qty (m:=m) (w:=R i) rfl hn k) k
theorem q1z {m n:Nat} {R:Nat→Nat→Int} {c:Nat→Int} {S:Sto} {P:D→Sto→Prop} {x y z:D} (hx:qra n R=x) (hy:qbc n c=y) (hz:D.lst [x,y]=z) (hn:n≤100) (k:P (.bl true) S):Ok (qq (m+4) [z,z] S) P:=by
 refine qt6 (m:=m+2) (n:=2) (g:=fun i=>if i=0 then x else y) (by rw[← hz];rfl) (by omega) (fun i hi S P k=> ?_) k
 by_cases h:i=0
 · rw[if_pos h];exact q1y hx hn k
 · rw[if_neg h];exact qty (m:=m+1) hy hn k
noncomputable abbrev qt7:CSL:=.cons (.ret (.and (.call 3 (.cons (.lst false (.cons (.frz (.call 0 (.cons (.var 4) (.cons (.var 5) .nil)))) (.cons (.frz (.call 1 (.cons (.var 4) (.cons (.var 5) .nil)))) .nil))) (.cons (.var 8) .nil))) (.and (.cmp .Eq (.var 4) (.var 2)) (.one (.cmp .Eq (.var 5) (.var 3)))))) .nil
noncomputable abbrev qt8:CSL:=.cons (.ex (.mt .append (.var 7) (.cons (.int 2) .nil))) qt7
noncomputable abbrev qt9:CSL:=.cons (.ex (.mt .append (.var 6) (.cons (.lst false .nil) .nil))) qt8
noncomputable abbrev qua:CSL:=.cons (.sfor (.nm 9) (.seq (.var 6)) (.cons (.ex (.mt .append (.var 9) (.cons (.int 1) .nil))) .nil)) qt9
noncomputable abbrev qub:CSL:=.cons (.set 8 (.lst false (.cons (.call 4 (.cons (.var 6) .nil)) (.cons (.bi (.list false) (.cons (.var 7) .nil)) .nil)))) qua
noncomputable abbrev quc:CSL:=.cons (.sif (.or (.not (.tru (.call 8 (.cons (.var 2) (.cons (.var 3) (.cons (.var 6) (.cons (.var 7) .nil))))))) (.or (.cmp .NotEq (.var 4) (.var 2)) (.one (.cmp .NotEq (.var 5) (.var 3))))) (.cons (.ret (.bl false)) .nil) .nil) qub
noncomputable abbrev qud:CSL:=.cons (.set 7 (.call 1 (.cons (.var 4) (.cons (.var 5) .nil)))) quc
noncomputable abbrev que:CSL:=.cons (.set 6 (.call 0 (.cons (.var 4) (.cons (.var 5) .nil)))) qud
noncomputable abbrev quf:CSL:=.cons (.set 5 (.call 7 (.cons (.var 3) .nil))) que
noncomputable abbrev qug:CSL:=.cons (.set 4 (.bi (.list false) (.cons (.var 2) .nil))) quf
noncomputable abbrev qrr:CSL:=.cons (.set 3 (.call 6 (.cons (.var 1) (.cons (.bi .len (.cons (.var 2) .nil)) .nil)))) qug
noncomputable abbrev qga:CSL:=.cons (.set 2 (.frz (.call 5 (.cons (.var 1) (.cons (.call 2 (.cons (.var 1) (.cons (.int 13) .nil))) .nil))))) qrr
noncomputable def qan:List (Str × Nat × Nat):=[("greatest",2,4),("best_cover",2,4),("_law_take",2,1),("_law_same",2,6),("_law_copied",1,1),("_law_weight_row",2,3),("_law_any_ties",2,3),("_law_lent_ties",1,1),("_law_meet",4,3)]
noncomputable def qa3:List Fd:=[qco,qbe,qaa,qq 5,qb9,qbi,qcd,qbp,qdq]
@[simp] theorem q4o:qg qa3 qan 0=qp 2 qco:=(rfl)
@[simp] theorem q4p:qg qa3 qan 1=qp 2 qbe:=(rfl)
@[simp] theorem q4q:qg qa3 qan 2=qp 2 qaa:=(rfl)
@[simp] theorem q4r:qg qa3 qan 3=qp 2 (qq 5):=(rfl)
@[simp] theorem q4s:qg qa3 qan 4=qp 1 qb9:=(rfl)
@[simp] theorem q4t:qg qa3 qan 5=qp 2 qbi:=(rfl)
@[simp] theorem q4u:qg qa3 qan 6=qp 2 qcd:=(rfl)
@[simp] theorem q4v:qg qa3 qan 7=qp 1 qbp:=(rfl)
@[simp] theorem q4w:qg qa3 qan 8=qp 4 qdq:=(rfl)
theorem q9h {r:Out (Fl × Env)} (h:Ok r fun x _=>x.1=.rt (.bl true)):∃ Γ' S',r=.ok (.rt (.bl true),Γ') S':=by
 unfold Ok at h
 cases r with
 | ok a S=>obtain ⟨fl,Γ⟩:=a;cases h;exact⟨Γ,S,rfl⟩
 | err x S=>exact h.elim
 | no=>exact h.elim
theorem q4x {ms:List Int}:qen (q0p ms):=⟨ms,0,0,17,rfl,by decide,by decide,by decide⟩
theorem ne_self {d:D} {S:Sto} (h:d.pln=true) (hd:d.dep≤60):qa8 .NotEq d d S=.ok (.bl false) S:=by
 have e0:look d S=d:=by cases d <;> first | rfl | (simp [D.pln]at h)
 show eqM true (look d S) (look d S) S=_
 rw[e0]
 unfold eqM
 rw[qnd d h]
 dsimp only
 rw[decide_eq_true hd,Bool.true_and]
 cases d <;> first | rfl | (simp [D.pln]at h;done)
theorem qvs (a:Addr) (ms:List Int) (Q:Fl × Env→Sto→Prop) (hR:∀ Γ S,Q (.rt (.bl true),Γ) S):Ok (qt qa3 qan qga (some (.at_ a)::some (.ref 0)::List.replicate 8 none) [q0p ms]) Q:=by
 unfold qga
 ((try simp);rw[qa];try simp)
 refine qad q4x (by decide) (by decide) fun sz c1 s0 s1 hc1=> ?_
 obtain ⟨n,rfl⟩:=Int.eq_ofNat_of_zero_le s0
 refine qoc hc1 (by omega) fun ns c2 hl hb hc2=> ?_
 rw[qh9 (xs:=ns.map D.int) (by simp) (fun d hd=>by obtain ⟨p,_,rfl⟩:=List.mem_map.mp hd;exact qc9)]
 obtain ⟨w,e0,hw⟩:∃ w:Nat→Int,D.lst (ns.map D.int)=qbc n w∧∀ i < n,0≤w i:=⟨fun i=>ns.getD i 0,by unfold qbc;rw[← qwx,← hl,← q0x],fun i hi=>(hb _ (by simp [hl,hi])).1⟩
 rw[e0]
 have hlen:∀ S,biF .len [qbc n w] S=.ok (.int n) S:=fun S=>by simp [qbc]
 have hls:∀ S,biF (.list false) [qbc n w] S=.ok (qbc n w) S:=fun S=>rfl
 have hG:∀ (ts:Option (List (Nat × Nat))),qcs n ts→_:=fun ts ht=>qrq (n:=n) (w:=w) (ts:=ts) (by omega) hw ht
 have hC:∀ (ts:Option (List (Nat × Nat))),qcs n ts→_:=fun ts ht=>qnh (n:=n) (w:=w) (ts:=ts) (by omega) hw ht
 have hx0:At ([]:Sto) (qbc n w) (vec n fun i=>.int (w i)):=.inl rfl
 generalize hx:qbc n w=x at *
 simp
 ((try simp);rw[qa];try simp)
 rw[hlen]
 simp
 refine qtv hc2 (by omega) fun ts c3 X1 ht hc3=> ?_
 obtain ⟨f,u,r,G,T,fl,wk,hr,gr⟩:=hG ts ht
 obtain ⟨f',u',r',G',T',fl',wk',hr',cr⟩:=hC ts ht
 clear hG hC
 have sy:∀ i < n,∀ j < n,qac ts i j=qac ts j i:=fun i _ j _=>q08
 have k1:=qvj fl sy
 have k2:=qvi wk' sy
 have k3:tot n (fun i j=>f i j+f j i)=2 * cost n w (hv G' T'):=by rw[qrb,qvk fl' wk' hr',q1c sy fl wk hr fl' wk' hr']
 obtain ⟨R,hR0⟩:∃ R:Nat→Nat→Int,∀ i j,R i j=f i j+f j i:=⟨_,fun _ _=>rfl⟩
 obtain ⟨c,hc0⟩:∃ c:Nat→Int,∀ i,c i=hv G' T' i:=⟨_,fun _=>rfl⟩
 simp only [← hR0]at gr k1 k3
 simp only [← hc0]at cr
 rw[show hv G' T'=c from funext fun i=>(hc0 i).symm]at k2 k3
 generalize hy:qw ts=y at gr cr
 clear fl wk hr fl' wk' hr'
 ((try simp);rw[qa];try simp)
 rw[hls]
 simp
 ((try simp);rw[qa];try simp)
 rw[← hy]
 refine q4g ?_
 rw[hy]
 ((try simp);rw[qa];try simp)
 refine gr _ _ fun X2 l2 b hb2 hl2 hM=> ?_
 ((try simp);rw[qa];try simp)
 refine cr _ _ fun X3 l3 hl3 hV=> ?_
 have hA:MAt (c3::Cell.gone::X1++X2++X3) (.ref l2) n R:=by
   have keep:∀ {k:Nat} {z:Cell},(c3::Cell.gone::X1++X2)[k]? =some z→(c3::Cell.gone::X1++X2++X3)[k]? =some z:=fun {k z} h=>by
     rw[List.getElem?_append_left (List.getElem?_eq_some_iff.mp h).1];exact h
   exact⟨fun i=>.ref (b+i),.inr ⟨l2,rfl,keep (by simpa using hM.top)⟩,fun i hi=>.inr ⟨b+i,rfl,keep (by simpa using hM.row i hi)⟩⟩
 have hV':At (c3::Cell.gone::X1++X2++X3) (.ref l3) (vec n fun i=>.int (c i)):=.inr ⟨l3,rfl,by simpa using hV⟩
 have hT:(c3::Cell.gone::X1++X2++X3)[l2]? =some (.lst (vec n fun i=>.ref (b+i)))∧(∀ i < n,(c3::Cell.gone::X1++X2++X3)[b+i]? =some (.lst (vec n fun j=>.int (R i j))))∧(∀ i < n,b+i ≠ l2)∧(∀ i < n,b+i ≠ l3)∧l2 ≠ l3:=by
   have lt:∀ {S:Sto} {k:Nat} {x:Cell},S[k]? =some x→k < S.length:=fun h=>(List.getElem?_eq_some_iff.mp h).1
   have keep:∀ {k:Nat} {z:Cell},(c3::Cell.gone::X1++X2)[k]? =some z→(c3::Cell.gone::X1++X2++X3)[k]? =some z:=fun {k z} h=>by
     rw[List.getElem?_append_left (lt h)];exact h
   have t1:=lt hM.top
   have o:=hM.out
   have tr:∀ i < n,b+i < (c3::Cell.gone::X1++X2).length:=fun i hi=>lt (hM.row i hi)
   simp at hl3 t1 tr
   exact⟨keep hM.top,fun i hi=>keep (hM.row i hi),fun i hi=>by omega,fun i hi=>by have:=tr i hi;omega,by omega⟩
 clear hM hb2 hl2 hl3
 have px:x.pln=true:=by subst hx;exact q1h
 have dx:x.dep≤60:=by subst hx;exact Nat.le_trans q1i (by decide)
 have py:y.pln=true:=by subst hy;exact q1j
 have dy:y.dep≤60:=by subst hy;exact Nat.le_trans q1k (by decide)
 have nx:∀ S,qa8 .NotEq x x S=.ok (.bl false) S:=fun S=>ne_self px dx
 have ny:∀ S,qa8 .NotEq y y S=.ok (.bl false) S:=fun S=>ne_self py dy
 have qx:∀ S,qa8 .Eq x x S=.ok (.bl true) S:=fun S=>eq_self px dx
 have qy:∀ S,qa8 .Eq y y S=.ok (.bl true) S:=fun S=>eq_self py dy
 have mt:∀ (P:D→Sto→Prop),P (.bl true) (c3::Cell.gone::X1++X2++X3)→Ok (qdq [x,y,.ref l2,.ref l3] (c3::Cell.gone::X1++X2++X3)) P:=fun P k=>by
   subst hy;subst hx
   exact q88 (.inl rfl) hA hV' (by omega) ht k1 k2 k3 k
 have cp:∀ (P:D→Sto→Prop),P (qra n R) (c3::Cell.gone::X1++X2++X3)→Ok (qb9 [.ref l2] (c3::Cell.gone::X1++X2++X3)) P:=fun P k=>q1f hA (by omega) k
 have lc:biF (.list false) [.ref l3] (c3::Cell.gone::X1++X2++X3)=.ok (qbc n c) (c3::Cell.gone::X1++X2++X3):=qtx (by simpa using hV)
 ((try simp);rw[qa];try simp)
 simp only [List.cons_append,List.append_assoc]at mt cp lc hT hV
 generalize Cell.gone::(X1++(X2++X3))=T0 at mt cp lc hT hV ⊢
 refine mt _ ?_
 simp [nx,ny]
 ((try simp);rw[qa];try simp)
 refine cp _ ?_
 simp [lc]
 have e1:mkL false [qra n R,qbc n c] (c3::T0)=.ok (.lst [qra n R,qbc n c]) (c3::T0):=by
   unfold mkL;rw[if_pos (qby (by simp))];rfl
 rw[e1]
 generalize hm:qra n R=m at *
 generalize hv2:qbc n c=v at *
 generalize hz:D.lst [m,v]=z
 simp
 rw[qa]
 obtain ⟨h2,hrow,d1,d2,d3⟩:=hT
 clear hA hV' mt cp lc e1 hlen hls
 generalize c3::T0=S0 at h2 hrow hV ⊢
 obtain ⟨J,hJ⟩:∃ J:Nat→Sto→Prop,∀ i S,J i S↔(S[l2]? =some (.lst (vec n fun i=>.ref (b+i)))∧(∀ k < n,∃ xs,S[b+k]? =some (.lst xs)∧xs.length≤100+i)∧∃ xs,S[l3]? =some (.lst xs)∧xs.length≤100):=⟨_,fun _ _=>Iff.rfl⟩
 have j0:J 0 S0:=(hJ _ _).mpr ⟨h2,fun k hk=>⟨_,hrow k hk,by simp;omega⟩,_,hV,by simp;omega⟩
 have e2:qo (.ref l2) S0=.ok (vec n fun i=>.ref (b+i),[(l2,.lst (vec n fun i=>.ref (b+i)))]) S0:=by unfold qo;dsimp only;rw[h2]
 simp
 rw[e2]
 simp
 refine qaq (Iv:=fun i Γ S=>(∃ v9,Γ=[some (D.at_ a),some (D.ref 0),some x,some y,some x,some y,some (D.ref l2),some (D.ref l3),some z,v9])∧J i S) ⟨⟨none,rfl⟩,j0⟩ (fun i Γ S h=> ?_) (fun i d Γ S hd h=> ?_) fun Γ S h=> ?_
 · intro p hp
   rw[List.mem_singleton.mp hp]
   exact((hJ _ _).mp h.2).1
 · obtain ⟨⟨v9,rfl⟩,hj⟩:=h
   have hi:i < n:=by have:=(List.getElem?_eq_some_iff.mp hd).1;simpa using this
   rw[qfr hi]at hd
   cases hd
   obtain ⟨q1,q2,ys,q3,q4⟩:=(hJ _ _).mp hj
   obtain ⟨xs,q5,q6⟩:=q2 i hi
   have hl2:look (.ref (b+i)) S=.lst xs:=qh q5
   simp
   rw[qa]
   simp [hl2]
   rw[qhc q5 (by omega)]
   simp
   refine(hJ _ _).mpr ⟨by rw[List.getElem?_set_ne (d1 i hi)];exact q1,fun k hk=> ?_,ys,by rw[List.getElem?_set_ne (d2 i hi)];exact q3,q4⟩
   by_cases hki:k=i
   · subst hki
     exact⟨xs++[.int 1],List.getElem?_set_self (List.getElem?_eq_some_iff.mp q5).1,by simp;omega⟩
   · obtain ⟨zs,z1,z2⟩:=q2 k hk
     exact⟨zs,by rw[List.getElem?_set_ne (by omega)];exact z1,by omega⟩
 · obtain ⟨⟨v9,rfl⟩,hj⟩:=h
   obtain ⟨q1,_,ys,q3,q4⟩:=(hJ _ _).mp hj
   have hl2:look (.ref l2) S=_:=qh q1
   ((try simp);rw[qa];try simp [hl2])
   rw[qhc q1 (by simp;omega)]
   simp
   have q3':(S.set l2 (.lst ((vec n fun i=>D.ref (b+i))++[.lst []])))[l3]? =some (.lst ys):=by rw[List.getElem?_set_ne d3];exact q3
   generalize S.set l2 (.lst ((vec n fun i=>D.ref (b+i))++[.lst []]))=S1 at q3' ⊢
   have hl3:look (.ref l3) S1=_:=qh q3'
   ((try simp);rw[qa];try simp [hl3])
   rw[qhc q3' (by omega)]
   simp
   generalize S1.set l3 (.lst (ys++[.int 2]))=S2
   rw[qa]
   simp
   refine gr _ _ fun X4 l4 b4 _ _ hM4=> ?_
   obtain ⟨S5,e5,_⟩:=qq6 hM4 fun i j=>qc9
   have e5':qd8 (.ref l4) (S2++X4)=.ok m S5:=by rw[e5,← hm];rfl
   rw[e5']
   simp
   refine cr _ _ fun X5 l5 _ hV5=> ?_
   have e6:qd8 (.ref l5) (S5++X5)=.ok v ((S5++X5).set l5 .gone):=by
     rw[qh9 hV5 (fun d hd=>by obtain ⟨i,_,rfl⟩:=qq5 hd;exact qc9),← hv2];rfl
   rw[e6]
   have e7:∀ S,mkL false [m,v] S=.ok z S:=fun S=>by
     rw[← hz,qhb (by simp)];rfl
   simp
   rw[e7]
   simp
   refine q1z (m:=1) hm hv2 hz (by omega) ?_
   simp [qx,qy]
   exact hR _ _
theorem qrs (a:Addr) (ms:List Int):∃ Γ' S',qt qa3 qan qga (some (.at_ a)::some (.ref 0)::List.replicate 8 none) [q0p ms]=.ok (.rt (.bl true),Γ') S' :=
 q9h (qvs a ms _ fun _ _=>rfl)
end T3
set_option maxHeartbeats 4000000
namespace K21
open PySem PySem.Spec PyProof.Rows L2 T3
noncomputable def top (i : Nat) : Stmt := PySem.Challenge.pw_outlivers_k21_whole_greatest_and_cover_m.main.body.getD i (.Pass ⟨0, 0, 0, 0⟩)
noncomputable def bs:List Str:=["enumerate","list","min","len","range","isinstance","tuple","all","zip","int","bool","str","max","sum"]
noncomputable abbrev qii:Stmt:=top 3
noncomputable abbrev qij:Stmt:=top 4
noncomputable abbrev qpu:Stmt:=top 2
noncomputable abbrev qd1:Stmt:=top 5
noncomputable abbrev qpv:Stmt:=top 6
noncomputable abbrev qik:Stmt:=top 7
noncomputable abbrev qpw:Stmt:=top 1
noncomputable abbrev qks:Stmt:=top 9
noncomputable abbrev qni:Stmt:=top 11
noncomputable abbrev quh:Stmt:=top 13
noncomputable abbrev qil:Stmt:=top 12
noncomputable abbrev qkf:Stmt:=top 15
noncomputable abbrev qnj:Stmt:=top 16
noncomputable abbrev qkt:Stmt:=top 17
noncomputable abbrev qhf:Stmt:=top 18
noncomputable abbrev qef:Stmt:=top 19
noncomputable abbrev qeg:Stmt:=top 20
noncomputable abbrev qim:Stmt:=top 21
noncomputable abbrev qeh:Stmt:=top 22
noncomputable abbrev qfv:Stmt:=top 23
noncomputable abbrev qfw:Stmt:=top 24
noncomputable abbrev qe5:Stmt:=top 25
noncomputable abbrev qpx:Stmt:=top 26
noncomputable abbrev qfx:Stmt:=top 27
noncomputable abbrev qin:Stmt:=top 28
noncomputable abbrev qpy:Stmt:=top 29
noncomputable abbrev qnk:Stmt:=top 30
noncomputable abbrev qnl:Stmt:=top 31
noncomputable abbrev qnm:Stmt:=top 32
section
variable {P:Program} {w:World} {K:PySem.W.Frag} {mg:Str→Option Value} {base:Heap}
theorem qvt {f:Addr} {fd:FuncData} (F:Fun K "_law_box" "_law_box" qkf f fd) (hz:mg "list"=none):qek P w K mg base CX0 1 f fd ["_law_script"] (T3.sp_box K):=by
 refine F.ok (qld (N:=["_law_script"]) (by decide +kernel)) (fun vs H Q E h=> ?_) (fun cdv A outer s H vs Q E hr h=> ?_)
 · obtain ⟨a,ns,rfl,_⟩:=h
   rfl
 · obtain ⟨a,ns,rfl,hS,hl,k⟩:=h
   refine⟨_,(q2c (qy1 (qy8 (qcz (qit (q22 (K:=K) rfl) rfl hz qk6 (qcz (qr5 (kSlL (K:=K) rfl) (pv 0) qv6 (qv7 qlj)) qis)) (qcz qlj (qcz qlj (qcz qlj qis))))))),?_⟩
   refine⟨_,rfl,_,rfl,a,_,rfl,hS,fun p hp=> ?_⟩
   refine⟨p,_,rfl,.inl (SqL.of qi),fun c hc=> ?_⟩
   refine⟨by show 4≤sizeLine;decide,fun b hb=> ?_⟩
   have nbc:c ≠ b:=q9 qi hb
   have hb1:qgi H _:=qgi.trans (qgi.upd (o:=.lst (qku (ns.map V.int) none (some 63))) hp) (qgi.upd (o:=.lst (qku (ns.map V.int) none (some 63))) hc)
   obtain ⟨ms,em⟩:=qxt ns none (some 63)
   refine k b c ms _ (hb1.free hb) ((qgi.upd hp).free hc) nbc (hb1.trans (qgi.upd hb)) qi ?_
   rw[qc nbc,qi,em]
end
theorem qom:dOk ["wave","takers","tied","found","giver","taker","is_tied"] ["wave","takers","tied"] qii qhw 0 bs qeo=true:=by decide +kernel
theorem qon:dOk ["found","givers","given","wave","taker","giver","row"] ["found","givers","given"] qij qhy 0 bs qep=true:=by decide +kernel
theorem qvu:dOk ["given","unspent","tied","givers","takers","wave","found"] ["given","unspent","tied"] qpu qf5 1 bs qjf=true:=by decide +kernel
theorem qhg:dOk ["takers","room","taker"] ["takers","room"] qd1 qdw 0 bs qb5=true:=by decide +kernel
theorem qvv:dOk ["end","givers","takers","path","taker","giver"] ["end","givers","takers"] qpv qpi 0 bs qjg=true:=by decide +kernel
theorem qoo:dOk ["path","given","unspent","room","end","start","backs","much","giver","taker","before"] ["path","given","unspent","room"] qik qh0 0 bs qeq=true:=by decide +kernel
theorem qvw:dOk ["weights","tied","given","unspent","room","givers","takers","end"] ["weights","tied"] qpw qc6 2 bs qjh=true:=by decide +kernel
theorem qrt:dOk ["ties","size","tied","one","other"] ["ties","size"] qks qkp 0 bs qfm=true:=by decide +kernel
theorem qui:dOk ["weights","ties","given","givers","takers"] ["weights","ties"] qni qer 3 bs qgs=true:=by decide +kernel
theorem qyt:dOk ["member","givers","takers","gave","took"] ["member","givers","takers"] quh qtl 0 bs qm3=true:=by decide +kernel
theorem qop:dOk ["weights","ties","given","givers","takers"] ["weights","ties"] qil qb7 3 bs qet=true:=by decide +kernel
theorem quj:dOk ["_law_box_here","_law_many","_law_rest","_law_cell","_law_seed"] ["_law_box_here","_law_many"] qnj qvb 0 bs qgr=true:=by decide +kernel
theorem qru:dOk ["_law_box_here","_law_ways","_law_found","_law_k"] ["_law_box_here"] qkt qfo 1 bs qfn=true:=by decide +kernel
theorem qio:dOk ["_law_found","_law_size","_law_row"] ["_law_found","_law_size"] qef qed 0 bs qcp=true:=by decide +kernel
theorem qip:dOk ["_law_found","_law_size"] ["_law_found","_law_size"] qeg qee 0 bs qcq=true:=by decide +kernel
theorem qoq:dOk ["_law_rows"] ["_law_rows"] qim qh3 0 bs qeu=true:=by decide +kernel
theorem qiq:dOk ["_law_box_here","_law_many","_law_way","_law_row","_law_k","_law_at"] ["_law_box_here","_law_many"] qeh qa0 2 bs qcr=true:=by decide +kernel
theorem qk2:dOk ["_law_box_here","_law_many","_law_ties","_law_share","_law_one","_law_other","_law_pair"] ["_law_box_here","_law_many"] qfv qca 1 bs qdk=true:=by decide +kernel
theorem qk3:dOk ["_law_box_here","_law_many"] ["_law_box_here","_law_many"] qfw qcc 2 bs qdm=true:=by decide +kernel
theorem qkg:dOk ["_law_ties"] ["_law_ties"] qe5 qe4 0 bs qcx=true:=by decide +kernel
theorem qvx:dOk ["_law_ties","_law_one","_law_other"] ["_law_ties","_law_one","_law_other"] qpx qpk 0 bs qjv=true:=by decide +kernel
theorem qk4:dOk ["_law_loads","_law_ties","_law_rows","_law_one","_law_other","_law_here"] ["_law_loads","_law_ties","_law_rows"] qfx qdp 1 bs qdo=true:=by decide +kernel
theorem qor:dOk ["_law_ties","_law_row","_law_one","_law_other"] ["_law_ties","_law_row"] qin qew 1 bs qev=true:=by decide +kernel
theorem qvy:dOk ["_law_rows"] ["_law_rows"] qpy qpl 0 bs qj6=true:=by decide +kernel
theorem quk:dOk ["_law_loads","_law_row"] ["_law_loads","_law_row"] qnk qm8 0 bs qg9=true:=by decide +kernel
theorem qul:dOk ["_law_loads","_law_ties","_law_rows","_law_cover","_law_size"] ["_law_loads","_law_ties","_law_rows","_law_cover"] qnl qbb 2 bs qha=true:=by decide +kernel
theorem qum:∀ d < 5,dOk ["_law_found","_law_due"] ["_law_found","_law_due"] qhf (qgt d) (d+1) bs qdj=true:=by decide +kernel
theorem q9i:qme ⟨["_law_script","_law_box_here","_law_loads","_law_ties","_law_handed","_law_lent","_law_rows","_law_cover","_law_kept","_law_row"],qf qnm,fun _=>true,qan,6,bs⟩ qga ((qa4 qnm).drop 1)=true:=by decide +kernel
noncomputable def en (P:Params) (x:Str) (t:Nat) (v:Value):DictEntry:={ hash:=PyData.keyHash P x,key:=.str x t,val:=v }
noncomputable def fo (st:Stmt) (x:Str) (kV dc pm:Value) (an:Option Addr) (c ct:Value) (sl:Array (Option Value)):Obj:=⟨.type "function",none,.func (PySem.W.fnOf x x (qc1 st) (qa4 st) (qf st) .none kV dc pm an c ct),sl⟩
noncomputable def hp (P:Params):PySem.W.Frag:=[(3,({ cls:=.type "dict",data:=Data.dict #[en P "__name__" 165 (.str "law_outlivers_k21_whole_greatest_and_cover_m" 287),en P "__doc__" 166 (.none),en P "__package__" 167 (.none),en P "__loader__" 168 (.builtin "__main__.__loader__#opaque"),en P "__spec__" 169 (.none),en P "__annotations__" 170 (.ref 6),en P "__builtins__" 171 (.ref 4),en P "__file__" 173 (.str "/claim/cut.py" 172),en P "__cached__" 174 (.none),en P "fullest" 194 (.ref 19),en P "reached" 200 (.ref 24),en P "new_takers" 213 (.ref 31),en P "new_givers" 226 (.ref 38),en P "first_with_room" 235 (.ref 45),en P "path_to" 247 (.ref 52),en P "give_along" 253 (.ref 57),en P "tie_table" 261 (.ref 62),en P "greatest" 269 (.ref 67),en P "best_cover" 275 (.ref 72),en P "halves" 286 (.ref 79),en P "_law_box" 295 (.ref 86),en P "_law_take" 306 (.ref 93),en P "_law_great" 316 (.ref 100),en P "_law_same" 322 (.ref 105),en P "_law_whole_rows" 328 (.ref 110),en P "_law_whole_list" 334 (.ref 115),en P "_law_copied" 340 (.ref 120),en P "_law_weight_row" 352 (.ref 127),en P "_law_tie_list" 365 (.ref 134),en P "_law_any_ties" 373 (.ref 141),en P "_law_lent_ties" 380 (.ref 148),en P "_law_are" 389 (.ref 155),en P "_law_fault_of" 401 (.ref 162),en P "_law_covers" 411 (.ref 169),en P "_law_sum" 417 (.ref 174),en P "_law_cost" 423 (.ref 179),en P "_law_meet" 429 (.ref 184),en P "law" 445 (.ref 191)] 38 }:Obj)),
 (18,({ cls:=.type "code",data:=Data.fields #[.str "fullest" 189,.str "fullest" 190,.str "/claim/cut.py" 191,.int 2 0,.int 2 0,.int 0 0,.int 0 0,.int 3 0,.ref 15,.bool true,.int 181 0,.ref 16,.none,.none,.none,.ref 17,.int 192 0,.int 2 0,.str "/claim/cut.py" 193] }:Obj)),
 (19,fo qpw "fullest" (.none) (.none) (.str "outlivers.flow" 187) (none) (.ref 18) (.none) #[]),
 (23,({ cls:=.type "code",data:=Data.fields #[.str "reached" 195,.str "reached" 196,.str "/claim/cut.py" 197,.int 12 0,.int 3 0,.int 0 0,.int 0 0,.int 3 0,.ref 20,.bool true,.int 181 0,.ref 21,.none,.none,.none,.ref 22,.int 198 0,.int 12 0,.str "/claim/cut.py" 199] }:Obj)),
 (24,fo qpu "reached" (.none) (.none) (.str "outlivers.flow" 187) (none) (.ref 23) (.none) #[]),
 (30,({ cls:=.type "code",data:=Data.fields #[.str "new_takers" 201,.str "new_takers" 202,.str "/claim/cut.py" 203,.int 20 0,.int 3 0,.int 0 0,.int 0 0,.int 3 0,.ref 25,.bool true,.int 181 0,.ref 26,.none,.ref 27,.ref 28,.ref 29,.int 211 0,.int 20 0,.str "/claim/cut.py" 212] }:Obj)),
 (31,fo qii "new_takers" (.none) (.none) (.str "outlivers.flow" 187) (none) (.ref 30) (.none) #[]),
 (37,({ cls:=.type "code",data:=Data.fields #[.str "new_givers" 214,.str "new_givers" 215,.str "/claim/cut.py" 216,.int 28 0,.int 3 0,.int 0 0,.int 0 0,.int 3 0,.ref 32,.bool true,.int 181 0,.ref 33,.none,.ref 34,.ref 35,.ref 36,.int 224 0,.int 28 0,.str "/claim/cut.py" 225] }:Obj)),
 (38,fo qij "new_givers" (.none) (.none) (.str "outlivers.flow" 187) (none) (.ref 37) (.none) #[]),
 (44,({ cls:=.type "code",data:=Data.fields #[.str "first_with_room" 227,.str "first_with_room" 228,.str "/claim/cut.py" 229,.int 36 0,.int 2 0,.int 0 0,.int 0 0,.int 3 0,.ref 39,.bool true,.int 181 0,.ref 40,.none,.ref 41,.ref 42,.ref 43,.int 233 0,.int 36 0,.str "/claim/cut.py" 234] }:Obj)),
 (45,fo qd1 "first_with_room" (.none) (.none) (.str "outlivers.flow" 187) (none) (.ref 44) (.none) #[]),
 (51,({ cls:=.type "code",data:=Data.fields #[.str "path_to" 236,.str "path_to" 237,.str "/claim/cut.py" 238,.int 41 0,.int 3 0,.int 0 0,.int 0 0,.int 3 0,.ref 46,.bool true,.int 181 0,.ref 47,.none,.ref 48,.ref 49,.ref 50,.int 245 0,.int 41 0,.str "/claim/cut.py" 246] }:Obj)),
 (52,fo qpv "path_to" (.none) (.none) (.str "outlivers.flow" 187) (none) (.ref 51) (.none) #[]),
 (56,({ cls:=.type "code",data:=Data.fields #[.str "give_along" 248,.str "give_along" 249,.str "/claim/cut.py" 250,.int 49 0,.int 4 0,.int 0 0,.int 0 0,.int 3 0,.ref 53,.bool true,.int 181 0,.ref 54,.none,.none,.none,.ref 55,.int 251 0,.int 49 0,.str "/claim/cut.py" 252] }:Obj)),
 (57,fo qik "give_along" (.none) (.none) (.str "outlivers.flow" 187) (none) (.ref 56) (.none) #[]),
 (61,({ cls:=.type "code",data:=Data.fields #[.str "tie_table" 256,.str "tie_table" 257,.str "/claim/cut.py" 258,.int 61 0,.int 2 0,.int 0 0,.int 0 0,.int 3 0,.ref 58,.bool true,.int 181 0,.ref 59,.none,.none,.none,.ref 60,.int 259 0,.int 61 0,.str "/claim/cut.py" 260] }:Obj)),
 (62,fo qks "tie_table" (.none) (.none) (.str "outlivers.ties" 254) (none) (.ref 61) (.none) #[]),
 (66,({ cls:=.type "code",data:=Data.fields #[.str "greatest" 264,.str "greatest" 265,.str "/claim/cut.py" 266,.int 70 0,.int 2 0,.int 0 0,.int 0 0,.int 3 0,.ref 63,.bool true,.int 181 0,.ref 64,.none,.none,.none,.ref 65,.int 267 0,.int 70 0,.str "/claim/cut.py" 268] }:Obj)),
 (67,fo qni "greatest" (.none) (.none) (.str "outlivers.stakes" 262) (none) (.ref 66) (.none) #[]),
 (71,({ cls:=.type "code",data:=Data.fields #[.str "best_cover" 270,.str "best_cover" 271,.str "/claim/cut.py" 272,.int 73 0,.int 2 0,.int 0 0,.int 0 0,.int 3 0,.ref 68,.bool true,.int 181 0,.ref 69,.none,.none,.none,.ref 70,.int 273 0,.int 73 0,.str "/claim/cut.py" 274] }:Obj)),
 (72,fo qil "best_cover" (.none) (.none) (.str "outlivers.stakes" 262) (none) (.ref 71) (.none) #[]),
 (78,({ cls:=.type "code",data:=Data.fields #[.str "halves" 276,.str "halves" 277,.str "/claim/cut.py" 278,.int 76 0,.int 3 0,.int 0 0,.int 0 0,.int 3 0,.ref 73,.bool true,.int 181 0,.ref 74,.none,.ref 75,.ref 76,.ref 77,.int 284 0,.int 76 0,.str "/claim/cut.py" 285] }:Obj)),
 (79,fo quh "halves" (.none) (.none) (.str "outlivers.stakes" 262) (none) (.ref 78) (.none) #[]),
 (85,({ cls:=.type "code",data:=Data.fields #[.str "_law_box" 289,.str "_law_box" 290,.str "/claim/cut.py" 291,.int 81 0,.int 1 0,.int 0 0,.int 0 0,.int 3 0,.ref 80,.bool true,.int 181 0,.ref 81,.none,.ref 82,.ref 83,.ref 84,.int 293 0,.int 81 0,.str "/claim/cut.py" 294] }:Obj)),
 (86,fo qkf "_law_box" (.none) (.none) (.str "law_outlivers_k21_whole_greatest_and_cover_m" 287) (none) (.ref 85) (.none) #[]),
 (92,({ cls:=.type "code",data:=Data.fields #[.str "_law_take" 296,.str "_law_take" 297,.str "/claim/cut.py" 298,.int 83 0,.int 2 0,.int 0 0,.int 0 0,.int 3 0,.ref 87,.bool true,.int 181 0,.ref 88,.none,.ref 89,.ref 90,.ref 91,.int 304 0,.int 83 0,.str "/claim/cut.py" 305] }:Obj)),
 (93,fo qnj "_law_take" (.none) (.none) (.str "law_outlivers_k21_whole_greatest_and_cover_m" 287) (none) (.ref 92) (.none) #[]),
 (99,({ cls:=.type "code",data:=Data.fields #[.str "_law_great" 307,.str "_law_great" 308,.str "/claim/cut.py" 309,.int 99 0,.int 1 0,.int 0 0,.int 0 0,.int 3 0,.ref 94,.bool true,.int 181 0,.ref 95,.none,.ref 96,.ref 97,.ref 98,.int 314 0,.int 99 0,.str "/claim/cut.py" 315] }:Obj)),
 (100,fo qkt "_law_great" (.none) (.none) (.str "law_outlivers_k21_whole_greatest_and_cover_m" 287) (none) (.ref 99) (.none) #[]),
 (104,({ cls:=.type "code",data:=Data.fields #[.str "_law_same" 317,.str "_law_same" 318,.str "/claim/cut.py" 319,.int 109 0,.int 2 0,.int 0 0,.int 0 0,.int 3 0,.ref 101,.bool true,.int 181 0,.ref 102,.none,.none,.none,.ref 103,.int 320 0,.int 109 0,.str "/claim/cut.py" 321] }:Obj)),
 (105,fo qhf "_law_same" (.none) (.none) (.str "law_outlivers_k21_whole_greatest_and_cover_m" 287) (none) (.ref 104) (.none) #[]),
 (109,({ cls:=.type "code",data:=Data.fields #[.str "_law_whole_rows" 323,.str "_law_whole_rows" 324,.str "/claim/cut.py" 325,.int 119 0,.int 2 0,.int 0 0,.int 0 0,.int 3 0,.ref 106,.bool true,.int 181 0,.ref 107,.none,.none,.none,.ref 108,.int 326 0,.int 119 0,.str "/claim/cut.py" 327] }:Obj)),
 (110,fo qef "_law_whole_rows" (.none) (.none) (.str "law_outlivers_k21_whole_greatest_and_cover_m" 287) (none) (.ref 109) (.none) #[]),
 (114,({ cls:=.type "code",data:=Data.fields #[.str "_law_whole_list" 329,.str "_law_whole_list" 330,.str "/claim/cut.py" 331,.int 128 0,.int 2 0,.int 0 0,.int 0 0,.int 3 0,.ref 111,.bool true,.int 181 0,.ref 112,.none,.none,.none,.ref 113,.int 332 0,.int 128 0,.str "/claim/cut.py" 333] }:Obj)),
 (115,fo qeg "_law_whole_list" (.none) (.none) (.str "law_outlivers_k21_whole_greatest_and_cover_m" 287) (none) (.ref 114) (.none) #[]),
 (119,({ cls:=.type "code",data:=Data.fields #[.str "_law_copied" 335,.str "_law_copied" 336,.str "/claim/cut.py" 337,.int 132 0,.int 1 0,.int 0 0,.int 0 0,.int 3 0,.ref 116,.bool true,.int 181 0,.ref 117,.none,.none,.none,.ref 118,.int 338 0,.int 132 0,.str "/claim/cut.py" 339] }:Obj)),
 (120,fo qim "_law_copied" (.none) (.none) (.str "law_outlivers_k21_whole_greatest_and_cover_m" 287) (none) (.ref 119) (.none) #[]),
 (126,({ cls:=.type "code",data:=Data.fields #[.str "_law_weight_row" 341,.str "_law_weight_row" 342,.str "/claim/cut.py" 343,.int 134 0,.int 2 0,.int 0 0,.int 0 0,.int 3 0,.ref 121,.bool true,.int 181 0,.ref 122,.none,.ref 123,.ref 124,.ref 125,.int 350 0,.int 134 0,.str "/claim/cut.py" 351] }:Obj)),
 (127,fo qeh "_law_weight_row" (.none) (.none) (.str "law_outlivers_k21_whole_greatest_and_cover_m" 287) (none) (.ref 126) (.none) #[]),
 (133,({ cls:=.type "code",data:=Data.fields #[.str "_law_tie_list" 353,.str "_law_tie_list" 354,.str "/claim/cut.py" 355,.int 148 0,.int 2 0,.int 0 0,.int 0 0,.int 3 0,.ref 128,.bool true,.int 181 0,.ref 129,.none,.ref 130,.ref 131,.ref 132,.int 363 0,.int 148 0,.str "/claim/cut.py" 364] }:Obj)),
 (134,fo qfv "_law_tie_list" (.none) (.none) (.str "law_outlivers_k21_whole_greatest_and_cover_m" 287) (none) (.ref 133) (.none) #[]),
 (140,({ cls:=.type "code",data:=Data.fields #[.str "_law_any_ties" 366,.str "_law_any_ties" 367,.str "/claim/cut.py" 368,.int 161 0,.int 2 0,.int 0 0,.int 0 0,.int 3 0,.ref 135,.bool true,.int 181 0,.ref 136,.none,.ref 137,.ref 138,.ref 139,.int 371 0,.int 161 0,.str "/claim/cut.py" 372] }:Obj)),
 (141,fo qfw "_law_any_ties" (.none) (.none) (.str "law_outlivers_k21_whole_greatest_and_cover_m" 287) (none) (.ref 140) (.none) #[]),
 (147,({ cls:=.type "code",data:=Data.fields #[.str "_law_lent_ties" 374,.str "_law_lent_ties" 375,.str "/claim/cut.py" 376,.int 165 0,.int 1 0,.int 0 0,.int 0 0,.int 3 0,.ref 142,.bool true,.int 181 0,.ref 143,.none,.ref 144,.ref 145,.ref 146,.int 378 0,.int 165 0,.str "/claim/cut.py" 379] }:Obj)),
 (148,fo qe5 "_law_lent_ties" (.none) (.none) (.str "law_outlivers_k21_whole_greatest_and_cover_m" 287) (none) (.ref 147) (.none) #[]),
 (154,({ cls:=.type "code",data:=Data.fields #[.str "_law_are" 381,.str "_law_are" 382,.str "/claim/cut.py" 383,.int 169 0,.int 3 0,.int 0 0,.int 0 0,.int 3 0,.ref 149,.bool true,.int 181 0,.ref 150,.none,.ref 151,.ref 152,.ref 153,.int 387 0,.int 169 0,.str "/claim/cut.py" 388] }:Obj)),
 (155,fo qpx "_law_are" (.none) (.none) (.str "law_outlivers_k21_whole_greatest_and_cover_m" 287) (none) (.ref 154) (.none) #[]),
 (161,({ cls:=.type "code",data:=Data.fields #[.str "_law_fault_of" 390,.str "_law_fault_of" 391,.str "/claim/cut.py" 392,.int 173 0,.int 3 0,.int 0 0,.int 0 0,.int 3 0,.ref 156,.bool true,.int 181 0,.ref 157,.none,.ref 158,.ref 159,.ref 160,.int 399 0,.int 173 0,.str "/claim/cut.py" 400] }:Obj)),
 (162,fo qfx "_law_fault_of" (.none) (.none) (.str "law_outlivers_k21_whole_greatest_and_cover_m" 287) (none) (.ref 161) (.none) #[]),
 (168,({ cls:=.type "code",data:=Data.fields #[.str "_law_covers" 402,.str "_law_covers" 403,.str "/claim/cut.py" 404,.int 188 0,.int 2 0,.int 0 0,.int 0 0,.int 3 0,.ref 163,.bool true,.int 181 0,.ref 164,.none,.ref 165,.ref 166,.ref 167,.int 409 0,.int 188 0,.str "/claim/cut.py" 410] }:Obj)),
 (169,fo qin "_law_covers" (.none) (.none) (.str "law_outlivers_k21_whole_greatest_and_cover_m" 287) (none) (.ref 168) (.none) #[]),
 (173,({ cls:=.type "code",data:=Data.fields #[.str "_law_sum" 412,.str "_law_sum" 413,.str "/claim/cut.py" 414,.int 194 0,.int 1 0,.int 0 0,.int 0 0,.int 3 0,.ref 170,.bool true,.int 181 0,.ref 171,.none,.none,.none,.ref 172,.int 415 0,.int 194 0,.str "/claim/cut.py" 416] }:Obj)),
 (174,fo qpy "_law_sum" (.none) (.none) (.str "law_outlivers_k21_whole_greatest_and_cover_m" 287) (none) (.ref 173) (.none) #[]),
 (178,({ cls:=.type "code",data:=Data.fields #[.str "_law_cost" 418,.str "_law_cost" 419,.str "/claim/cut.py" 420,.int 196 0,.int 2 0,.int 0 0,.int 0 0,.int 3 0,.ref 175,.bool true,.int 181 0,.ref 176,.none,.none,.none,.ref 177,.int 421 0,.int 196 0,.str "/claim/cut.py" 422] }:Obj)),
 (179,fo qnk "_law_cost" (.none) (.none) (.str "law_outlivers_k21_whole_greatest_and_cover_m" 287) (none) (.ref 178) (.none) #[]),
 (183,({ cls:=.type "code",data:=Data.fields #[.str "_law_meet" 424,.str "_law_meet" 425,.str "/claim/cut.py" 426,.int 198 0,.int 4 0,.int 0 0,.int 0 0,.int 3 0,.ref 180,.bool true,.int 181 0,.ref 181,.none,.none,.none,.ref 182,.int 427 0,.int 198 0,.str "/claim/cut.py" 428] }:Obj)),
 (184,fo qnl "_law_meet" (.none) (.none) (.str "law_outlivers_k21_whole_greatest_and_cover_m" 287) (none) (.ref 183) (.none) #[]),
 (190,({ cls:=.type "code",data:=Data.fields #[.str "law" 430,.str "law" 431,.str "/claim/cut.py" 432,.int 207 0,.int 1 0,.int 0 0,.int 0 0,.int 3 0,.ref 185,.bool true,.int 181 0,.ref 186,.none,.ref 187,.ref 188,.ref 189,.int 443 0,.int 207 0,.str "/claim/cut.py" 444] }:Obj)),
 (191,fo qnm "law" (.none) (.none) (.str "law_outlivers_k21_whole_greatest_and_cover_m" 287) (none) (.ref 190) (.none) #[])]
noncomputable def ads:List Addr:=[3,18,19,23,24,30,31,37,38,44,45,51,52,56,57,61,62,66,67,71,72,78,79,85,86,92,93,99,100,104,105,109,110,114,115,119,120,126,127,133,134,140,141,147,148,154,155,161,162,168,169,173,174,178,179,183,184,190,191]
noncomputable def Q : Program := { PySem.Challenge.pw_outlivers_k21_whole_greatest_and_cover_m with main := { PySem.Challenge.pw_outlivers_k21_whole_greatest_and_cover_m.main with body := [top 1, top 2, top 3, top 4, top 5, top 6, top 7, top 9, top 11, top 12, top 13, top 15, top 16, top 17, top 18, top 19, top 20, top 21, top 22, top 23, top 24, top 25, top 26, top 27, top 28, top 29, top 30, top 31, top 32] } }
theorem all {l:PySem.W.OpenLaw} {w:World} {mg:Str→Option Value} {fa:Addr} {h:Heap} (X:(hp w.params).In h) (G:h.Ns mainGlobals mg) (hfa:mg "law"=some (.ref fa)):∃ fd:FuncData,(∀ (s:Shared) (v:Value),BindsTo s fd ⟨[v],[]⟩ [("_law_script",v)])∧∀ base:Heap,(hp w.params).In base→base.Ns mainGlobals mg→qek l.prog w (hp w.params) mg base CX0 60 fa fd ["_law_script"] (T3.sp_law (hp w.params)):=by
 have e:=hfa.symm.trans (PySem.W.mg_of X G (show PySem.W.nsIn (hp w.params) mainGlobals "law"=some (some (.ref 191)) from rfl))
 cases e
 have B:∀ b ∈ bs,mg b=none:=by
   intro b hb
   simp only [bs,List.mem_cons,List.not_mem_nil,or_false]at hb
   rcases hb with rfl | rfl | rfl | rfl | rfl | rfl | rfl | rfl | rfl | rfl | rfl | rfl | rfl | rfl <;> exact PySem.W.mg_none_of X G (by kernel_rfl)
 refine⟨PySem.W.fnOf "law" "law" (qc1 qnm) (qa4 qnm) (qf qnm) .none (.none) (.none) (.str "law_outlivers_k21_whole_greatest_and_cover_m" 287) (none) (.ref 190) (.none),fun s v=>.of_eq rfl,fun base _ _=> ?_⟩
 have N_new_takers:FnT CX0 l.prog w (hp w.params) mg base "new_takers" 3 1 qb3:=qu (f:=31) (ps:=["wave","takers","tied"]) X G rfl rfl rfl rfl (qs0 fun _ _ _=>rfl) B .nil qom
 have N_new_givers:FnT CX0 l.prog w (hp w.params) mg base "new_givers" 3 1 qb4:=qu (f:=38) (ps:=["found","givers","given"]) X G rfl rfl rfl rfl (qs0 fun _ _ _=>rfl) B .nil qon
 have N_reached:FnT CX0 l.prog w (hp w.params) mg base "reached" 3 2 qeb:=qu (f:=24) (ps:=["given","unspent","tied"]) X G rfl rfl rfl rfl (qs0 fun _ _ _=>rfl) B (.cons N_new_takers (.cons N_new_givers .nil)) qvu
 have N_first_with_room:FnT CX0 l.prog w (hp w.params) mg base "first_with_room" 2 1 qar:=qu (f:=45) (ps:=["takers","room"]) X G rfl rfl rfl rfl (qgc fun _ _=>rfl) B .nil qhg
 have N_path_to:FnT CX0 l.prog w (hp w.params) mg base "path_to" 3 1 qec:=qu (f:=52) (ps:=["end","givers","takers"]) X G rfl rfl rfl rfl (qs0 fun _ _ _=>rfl) B .nil qvv
 have N_give_along:FnT CX0 l.prog w (hp w.params) mg base "give_along" 4 1 qb6:=qu (f:=57) (ps:=["path","given","unspent","room"]) X G rfl rfl rfl rfl (len4 fun _ _ _ _=>rfl) B .nil qoo
 have N_fullest:FnT CX0 l.prog w (hp w.params) mg base "fullest" 2 3 qcn:=qu (f:=19) (ps:=["weights","tied"]) X G rfl rfl rfl rfl (qgc fun _ _=>rfl) B (.cons N_reached (.cons N_first_with_room (.cons N_path_to (.cons N_give_along .nil)))) qvw
 have N_tie_table:FnT CX0 l.prog w (hp w.params) mg base "tie_table" 2 1 qba:=qu (f:=62) (ps:=["ties","size"]) X G rfl rfl rfl rfl (qgc fun _ _=>rfl) B .nil qrt
 have N_greatest:FnT CX0 l.prog w (hp w.params) mg base "greatest" 2 4 qco:=qu (f:=67) (ps:=["weights","ties"]) X G rfl rfl rfl rfl (qgc fun _ _=>rfl) B (.cons N_fullest (.cons N_tie_table .nil)) qui
 have N_halves:FnT CX0 l.prog w (hp w.params) mg base "halves" 3 1 qh2:=qu (f:=79) (ps:=["member","givers","takers"]) X G rfl rfl rfl rfl (qs0 fun _ _ _=>rfl) B .nil qyt
 have N_best_cover:FnT CX0 l.prog w (hp w.params) mg base "best_cover" 2 4 qbe:=qu (f:=72) (ps:=["weights","ties"]) X G rfl rfl rfl rfl (qgc fun _ _=>rfl) B (.cons N_fullest (.cons N_tie_table (.cons N_halves .nil))) qop
 have N_law_box:=qaam (qvt (P:=l.prog) (w:=w) (base:=base) (qp8 (K:=hp w.params) (f:=86) (st:=qkf) rfl rfl rfl) (B "list" (by decide +kernel))) (PySem.W.mg_of X G (show PySem.W.nsIn (hp w.params) mainGlobals "_law_box"=some (some (.ref 86)) from rfl)) rfl (.all (qyl fun _=>rfl))
 have N_law_take:FnT CX0 l.prog w (hp w.params) mg base "_law_take" 2 1 qaa:=qu (f:=93) (ps:=["_law_box_here","_law_many"]) X G rfl rfl rfl rfl (qgc fun _ _=>rfl) B .nil quj
 have N_law_great:FnT CX0 l.prog w (hp w.params) mg base "_law_great" 1 2 qdy:=qu (f:=100) (ps:=["_law_box_here"]) X G rfl rfl rfl rfl (qyl fun _=>rfl) B (.cons N_law_take .nil) qru
 have N_law_same:∀ d≤5,FnT CX0 l.prog w (hp w.params) mg base "_law_same" 2 (d+1) (qq d):=by
   intro d
   induction d with
   | zero=>intro _;exact qab0 X G (f:=105) (st:=qhf) (ps:=["_law_found","_law_due"]) rfl rfl rfl rfl (qgc fun _ _=>rfl) (qld (N:=["_law_found","_law_due"]) (by decide +kernel))
   | succ d ih=>intro hd;exact qu (f:=105) (ps:=["_law_found","_law_due"]) X G rfl rfl rfl rfl (qgc fun _ _=>rfl) B (.cons (ih (by omega)) .nil) (qum d (by omega))
 have N_law_same:=N_law_same 5 (Nat.le_refl _)
 have N_law_whole_rows:FnT CX0 l.prog w (hp w.params) mg base "_law_whole_rows" 2 1 qbf:=qu (f:=110) (ps:=["_law_found","_law_size"]) X G rfl rfl rfl rfl (qgc fun _ _=>rfl) B .nil qio
 have N_law_whole_list:FnT CX0 l.prog w (hp w.params) mg base "_law_whole_list" 2 1 qbg:=qu (f:=115) (ps:=["_law_found","_law_size"]) X G rfl rfl rfl rfl (qgc fun _ _=>rfl) B .nil qip
 have N_law_copied:FnT CX0 l.prog w (hp w.params) mg base "_law_copied" 1 1 qb9:=qu (f:=120) (ps:=["_law_rows"]) X G rfl rfl rfl rfl (qyl fun _=>rfl) B .nil qoq
 have N_law_weight_row:FnT CX0 l.prog w (hp w.params) mg base "_law_weight_row" 2 3 qbi:=qu (f:=127) (ps:=["_law_box_here","_law_many"]) X G rfl rfl rfl rfl (qgc fun _ _=>rfl) B (.cons N_law_take (.cons N_law_great .nil)) qiq
 have N_law_tie_list:FnT CX0 l.prog w (hp w.params) mg base "_law_tie_list" 2 2 qcb:=qu (f:=134) (ps:=["_law_box_here","_law_many"]) X G rfl rfl rfl rfl (qgc fun _ _=>rfl) B (.cons N_law_take .nil) qk2
 have N_law_any_ties:FnT CX0 l.prog w (hp w.params) mg base "_law_any_ties" 2 3 qcd:=qu (f:=141) (ps:=["_law_box_here","_law_many"]) X G rfl rfl rfl rfl (qgc fun _ _=>rfl) B (.cons N_law_take (.cons N_law_tie_list .nil)) qk3
 have N_law_lent_ties:FnT CX0 l.prog w (hp w.params) mg base "_law_lent_ties" 1 1 qbp:=qu (f:=148) (ps:=["_law_ties"]) X G rfl rfl rfl rfl (qyl fun _=>rfl) B .nil qkg
 have N_law_are:FnT CX0 l.prog w (hp w.params) mg base "_law_are" 3 1 qc8:=qu (f:=155) (ps:=["_law_ties","_law_one","_law_other"]) X G rfl rfl rfl rfl (qs0 fun _ _ _=>rfl) B .nil qvx
 have N_law_fault_of:FnT CX0 l.prog w (hp w.params) mg base "_law_fault_of" 3 2 qce:=qu (f:=162) (ps:=["_law_loads","_law_ties","_law_rows"]) X G rfl rfl rfl rfl (qs0 fun _ _ _=>rfl) B (.cons N_law_are .nil) qk4
 have N_law_covers:FnT CX0 l.prog w (hp w.params) mg base "_law_covers" 2 2 qc4:=qu (f:=169) (ps:=["_law_ties","_law_row"]) X G rfl rfl rfl rfl (qgc fun _ _=>rfl) B (.cons N_law_are .nil) qor
 have N_law_sum:FnT CX0 l.prog w (hp w.params) mg base "_law_sum" 1 1 qf7:=qu (f:=174) (ps:=["_law_rows"]) X G rfl rfl rfl rfl (qyl fun _=>rfl) B .nil qvy
 have N_law_cost:FnT CX0 l.prog w (hp w.params) mg base "_law_cost" 2 1 qex:=qu (f:=179) (ps:=["_law_loads","_law_row"]) X G rfl rfl rfl rfl (qgc fun _ _=>rfl) B .nil quk
 have N_law_meet:FnT CX0 l.prog w (hp w.params) mg base "_law_meet" 4 3 qdq:=qu (f:=184) (ps:=["_law_loads","_law_ties","_law_rows","_law_cover"]) X G rfl rfl rfl rfl (len4 fun _ _ _ _=>rfl) B (.cons N_law_whole_rows (.cons N_law_whole_list (.cons N_law_fault_of (.cons N_law_covers (.cons N_law_sum (.cons N_law_cost .nil)))))) qul
 exact(q81 (P:=l.prog) (w:=w) (base:=base) (qp8 (st:=qnm) rfl rfl rfl) (qld (N:=["_law_script","_law_box_here","_law_loads","_law_ties","_law_handed","_law_lent","_law_rows","_law_cover","_law_kept","_law_row"]) (by decide +kernel)) (by rfl) (by decide +kernel) (by decide +kernel) (by decide +kernel) (kb:=1) N_law_box (by decide) B (.cons N_greatest (.cons N_best_cover (.cons N_law_take (.cons N_law_same (.cons N_law_copied (.cons N_law_weight_row (.cons N_law_any_ties (.cons N_law_lent_ties (.cons N_law_meet .nil))))))))) q9i qrs).mono (by decide)
theorem walk {l:PySem.W.OpenLaw} {q:Program} {loose:List Str} {XP:(Str→Option Value)→Heap→Prop} {d:DefRec} (hn:l.most=some 63) (hdf:d.params.defaults=[]) (hd:d.name="law"):PySem.W.WalkO q loose XP (PySem.W.InK hp) l.row.toRowW d [] (fun f vs=>PySem.call f vs) :=
 L2.walk_of (n:=63) (k:=60) (x:="_law_script") (CX:=fun _=>CX0) (sp:=fun w=>T3.sp_law (hp w.params)) hn (by decide) hdf ⟨rfl,by decide,by decide⟩ (fun _ _ Y=>Y) (fun w mg fa h X G e=>all X G (hd ▸ e)) (fun _ _ a ns hl _ hS=>⟨a,ns,rfl,hS,hl,fun _=>rfl⟩) fun _ _ _ _ _ z=>z
noncomputable abbrev hook:PySem.W.Hook:=PySem.W.kHook hp ads (fun _=>rfl)
theorem left : PySem.W.LeftO PySem.Challenge.pw_outlivers_k21_whole_greatest_and_cover_m Q [] (fun s => PySem.W.xlAt Q [] s && PySem.W.recOk (PySem.W.RowW.records (PySem.W.OpenRow.toRowW PySem.Challenge.rw_outlivers_k21_whole_greatest_and_cover_m.row)) s) (PySem.W.Hook.obs hook) (PySem.W.Hook.val hook) 1924 := by
  intro w; kernel_rfl
theorem said : PySem.Challenge.rw_outlivers_k21_whole_greatest_and_cover_m.wellSaid = true := by kernel_rfl
end K21
open PySem PySem.W PyProof.Rows
set_option maxRecDepth 100000 in
set_option maxHeartbeats 0 in
theorem PySem.Challenge.cw_outlivers_k21_whole_greatest_and_cover_m_holds : PySem.Challenge.rw_outlivers_k21_whole_greatest_and_cover_m.Holds := by
  refine holds_law K21.said fun said => ?_
  refine holds_open (q := K21.Q) (loose := []) (Xt := (fun s => PySem.W.xlAt K21.Q [] s && PySem.W.recOk (PySem.W.RowW.records (PySem.W.OpenRow.toRowW PySem.Challenge.rw_outlivers_k21_whole_greatest_and_cover_m.row)) s)) (XP := XL K21.Q []) (Yf := Hook.obs K21.hook) (Ya := Hook.val K21.hook) (YP := Hook.says K21.hook) (N := 1924) K21.left (Hook.of K21.hook) (Hook.keeps K21.hook) (fun s e => xl_of s (Bool.and_eq_true_iff.mp e).1) XL.keeps (by rfl) (by rfl) (by rfl) (fun s e => recFacts_of (Bool.and_eq_true_iff.mp e).2) (by rfl) (by first | assumption | decide +kernel) (by decide +kernel) ⟨rfl, rfl, rfl, rfl, rfl, by decide +kernel⟩ ?hw ?hc
  · w_witness2
  exact K21.walk (l := PySem.Challenge.rw_outlivers_k21_whole_greatest_and_cover_m) rfl rfl rfl
