import PyProof.Rows.All
import Wide.All
import OpenK.AllK
import Wide.FinOn
import Lean
import PyProof.EqAt
import PyProof.EqKinds
import PyProof.TupleCall
import KE.KDictSum
import PySem.Challenge.RW_outlivers_k22_whole_all_laid_or_a_list_s
set_option genSizeOf false
set_option Elab.async false
set_option linter.all false
set_option maxRecDepth 100000
namespace L2
open PySem PySem.Spec PyProof.Rows
noncomputable abbrev Key:=Sum Int Str
noncomputable def qkx:Key→Value→Bool
 | .inl k,v=>Value.isInt k v
 | .inr x,v=>Value.isStrOf x v
noncomputable def keyH (w:World):Key→Int
 | .inl k=>hashInt k
 | .inr x=>hashStr w x
theorem qac:∀ {k:Key} {v:Value},qkx k v=true→(∃ i t,k=Sum.inl i∧v=Value.int i t)∨(∃ x t,k=Sum.inr x∧v=Value.str x t)
 | .inl i,v,h=>by
   obtain ⟨t,e⟩:=Value.isInt_shape (k:=i) (v:=v) h
   exact .inl ⟨i,t,rfl,e⟩
 | .inr x,v,h=>by
   obtain ⟨t,e⟩:=Value.isStrOf_shape (x:=x) (v:=v) h
   exact .inr ⟨x,t,rfl,e⟩
theorem qww (i:Int) (t:Tok):qkx (.inl i) (.int i t)=true:=by simp [qkx,Value.isInt]
theorem qwx (x:Str) (t:Tok):qkx (.inr x) (.str x t)=true:=by simp [qkx,Value.isStrOf]
theorem q44 (a b:Int):decide ((Sum.inl a:Key)=Sum.inl b)=(a==b):=by
 by_cases e:a=b
 · subst e;simp
 · have h:¬ (Sum.inl a:Key)=Sum.inl b:=fun q=>e (Sum.inl.inj q)
   rw[decide_eq_false h]
   exact(beq_eq_false_iff_ne.mpr e).symm
theorem q45 (a b:Str):decide ((Sum.inr a:Key)=Sum.inr b)=decide (a=b):=by
 by_cases e:a=b
 · subst e;simp
 · have h:¬ (Sum.inr a:Key)=Sum.inr b:=fun q=>e (Sum.inr.inj q)
   rw[decide_eq_false h,decide_eq_false e]
theorem q46 (a:Int) (b:Str):decide ((Sum.inl a:Key)=Sum.inr b)=false:=decide_eq_false (fun q=>nomatch q)
theorem q47 (a:Str) (b:Int):decide ((Sum.inr a:Key)=Sum.inl b)=false:=decide_eq_false (fun q=>nomatch q)
noncomputable def qo (prog:Program) (w:World):PySem.KeyKind prog w Key where
 is:=qkx
 hash:=keyH w
 inj :=fun v a b ha hb=>by
   rcases qac ha with ⟨i,t,rfl,rfl⟩ | ⟨x,t,rfl,rfl⟩
   · rcases qac hb with ⟨j,u,rfl,e⟩ | ⟨y,u,rfl,e⟩
     · injection e with e1 _;rw[e1]
     · exact nomatch e
   · rcases qac hb with ⟨j,u,rfl,e⟩ | ⟨y,u,rfl,e⟩
     · exact nomatch e
     · injection e with e1 _;rw[e1]
 byValue:=fun k v h=>by
   rcases qac h with ⟨i,t,rfl,rfl⟩ | ⟨x,t,rfl,rfl⟩ <;> rfl
 pyHash:=fun hv h=>by
   rcases qac hv with ⟨i,t,rfl,rfl⟩ | ⟨x,t,rfl,rfl⟩
   · exact wpAny_pyHash_int h
   · exact wpAny_pyHash_str h
 eqBool:=fun hu hv h=>by
   rcases qac hu with ⟨i,t,rfl,rfl⟩ | ⟨x,t,rfl,rfl⟩
   · rcases qac hv with ⟨j,u,rfl,rfl⟩ | ⟨y,u,rfl,rfl⟩
     · rw[q44]at h;exact wpAny_eqBool_int h
     · rw[q46]at h;exact SeqAt.EqAt.int_str i t y u _ _ _ _ h
   · rcases qac hv with ⟨j,u,rfl,rfl⟩ | ⟨y,u,rfl,rfl⟩
     · rw[q47]at h;exact SeqAt.EqAt.str_int x t j u _ _ _ _ h
     · rw[q45]at h;exact wpAny_eqBool_str h
 «strs»:=fun k x t v h=>by
   rcases qac h with ⟨i,u,rfl,e⟩ | ⟨y,u,rfl,e⟩
   · exact nomatch e
   · injection e with e1 _
     subst e1
     cases v <;> rfl
theorem qt6 (prog:Program) (w:World) (k:Key) (v:Value):(qo prog w).is k v=qkx k v:=rfl
theorem qrc (prog:Program) (w:World) (i:Int) (t:Tok):(qo prog w).is (.inl i) (.int i t)=true:=qww i t
theorem qrd (prog:Program) (w:World) (x:Str) (t:Tok):(qo prog w).is (.inr x) (.str x t)=true:=qwx x t
inductive V where
 | non | bl (b:Bool) | int (i:Int) | str (x:Str) | byt (b:Array UInt8) | flt (b:UInt64) | ref (a:Addr) | ty (n:String)
 deriving DecidableEq
noncomputable def RelV:V→Value→Prop
 | .non,u=>u=Value.none
 | .bl b,u=>u=Value.bool b
 | .int i,u=>∃ t,u=Value.int i t
 | .str x,u=>∃ t,u=Value.str x t
 | .byt b,u=>∃ t,u=Value.bytes b t
 | .flt b,u=>∃ t,u=Value.float b t
 | .ref a,u=>u=Value.ref a
 | .ty n,u=>u=Value.type n
noncomputable abbrev Vals:List V→List Value→Prop:=Paired RelV
theorem Vals.length {xs:List V} {us:List Value} (r:Vals xs us):xs.length=us.length:=Paired.length r
theorem Vals.get:∀ {xs:List V} {us:List Value} {i:Nat} {x:V},Vals xs us→xs[i]? =some x→∃ u,us[i]? =some u∧RelV x u
 | _,_,_,_,.nil,e=>by simp at e
 | _,_,0,_,.cons r _,e=>by simp at e;subst e;exact⟨_,rfl,r⟩
 | _,_,i+1,x,.cons _ t,e=>by
   obtain ⟨u,h1,h2⟩:=Vals.get (i:=i) (x:=x) t (by simpa using e)
   exact⟨u,by simpa using h1,h2⟩
theorem Vals.set {x:V} {u:Value} (r:RelV x u):∀ {xs:List V} {us:List Value} (i:Nat),Vals xs us→Vals (xs.set i x) (us.set i u)
 | _,_,_,.nil=>.nil
 | _,_,0,.cons _ t=>.cons r t
 | _,_,i+1,.cons q t=>.cons q (Vals.set r i t)
theorem Vals.append:∀ {xs ys:List V} {us ws:List Value},Vals xs us→Vals ys ws→Vals (xs++ys) (us++ws)
 | _,_,_,_,.nil,s=>s
 | _,_,_,_,.cons r t,s=>.cons r (Vals.append t s)
theorem Vals.take:∀ {xs:List V} {us:List Value} (n:Nat),Vals xs us→Vals (xs.take n) (us.take n)
 | _,_,0,_=>.nil
 | _,_,_+1,.nil=>.nil
 | _,_,n+1,.cons r t=>.cons r (Vals.take n t)
theorem Vals.drop:∀ {xs:List V} {us:List Value} (n:Nat),Vals xs us→Vals (xs.drop n) (us.drop n)
 | _,_,0,r=>r
 | _,_,_+1,.nil=>.nil
 | _,_,n+1,.cons _ t=>Vals.drop n t
noncomputable def qky:Option V→Option Value→Prop
 | some v,some u=>RelV v u
 | none,none=>True
 | _,_=>False
noncomputable def KV {κ:Type}:List (κ × V)→List (κ × Value)→Prop:=Paired fun (p:κ × V) (q:κ × Value)=>p.1=q.1∧RelV p.2 q.2
noncomputable def kV:Key→V
 | .inl i=>.int i
 | .inr x=>.str x
inductive HO where
 /-- a list -/
 | lst (xs:List V)
 /-- a tuple (never changes) -/
 | tup (xs:List V)
 /-- a dict whose keys are ints and texts;one whose keys are tuples of ints and texts (the empty one is both) -/
 | dK (kvs:List (Key × V)) | dT (kvs:List (List Key × V))
 /-- a set of ints: its members,its size -/
 | set (S:Int→Bool) (n:Nat)
 /-- an instance of the class at C,its dict at dx,its attributes -/
 | ins (C dx:Addr) (fs:List (Str × V))
 /-- the dict of the instance at x -/
 | own (x:Addr)
 /-- the dict of an exception -/
 | xd (fs:List (Str × V))
 /-- a bound method,f of x -/
 | met (f x:Addr)
 /-- a range object lo,lo+1,.. below hi -/
 | rng (lo hi:Int)
 /-- a thing that is known to the object (the script;a dict while a loop walks it): read,never written while it is so -/
 | frz (o:Obj) (u:HO)
 /-- a code object's table -/
 | tbl (ps:Array Value)
 /-- any other thing,by what is true of its one object (a def of one's own: SetO a S n:=HO.ext fun h=>..) -/
 | ext (φ:Heap→Prop)
noncomputable abbrev Hp:=Addr→Option HO
noncomputable def upd (H:Hp) (a:Addr) (o:HO):Hp:=fun b=>if b=a then some o else H b
theorem qi {H:Hp} {a:Addr} {o:HO}:upd H a o a=some o:=by unfold upd;rw[if_pos rfl]
theorem qc {H:Hp} {a b:Addr} {o:HO} (h:b ≠ a):upd H a o b=H b:=by unfold upd;rw[if_neg h]
theorem q88 {H:Hp} {a b:Addr} {o u:HO} (h:H a=some o) (h':H b=some u) (d:o ≠ u):a ≠ b:=by
 intro e;subst e;rw[h]at h';exact d (Option.some.inj h')
theorem q9 {H:Hp} {a b:Addr} {o:HO} (h:H a=some o) (h':H b=none):a ≠ b:=by
 intro e;subst e;rw[h]at h';cases h'
section
variable (P:Program) (w:World)
noncomputable def qat (H:Hp) (h:Heap) (a:Addr):HO→Prop
 | .lst xs=>xs.length≤sizeLine∧∃ (its:List Value) (n:Nat),Vals xs its∧h.get? a=some { cls:=.type "list",data:=.seq its.toArray n }
 | .tup xs=>xs.length≤sizeLine∧∃ its:List Value,Vals xs its∧IsTup h a its.toArray
 | .dK kvs=>kvs.length≤sizeLine∧(a==sysModules)=false∧∃ vs,KV kvs vs∧h.DictOf (qo P w) a vs
 | .dT kvs=>kvs.length≤sizeLine∧(a==sysModules)=false∧∃ xs:List (List Key × Addr × Value),
     Paired (fun (p:List Key × V) (q:List Key × Addr × Value)=>p.1=q.1∧H q.2.1=some (.tup (p.1.map kV))∧RelV p.2 q.2.2) kvs xs ∧
     ∃ o es ep,h.get? a=some o∧o.ExactDict∧o.data=.dict es ep∧es.toList=xs.map (entryOfKey (tupleKind (qo P w)))∧(xs.map (·.1)).Nodup
 | .set S n=>h.SetOf (intKind P w) a S n
 | .ins C dx fs=>H dx=some (.own a)∧fs.length≤1000∧dx ≠ a∧h.get? a=some (PySem.W.instObj C dx) ∧
     ∃ mA,h.Ns1 dx mA∧(∀ f,qky (fs.lookup f) (mA f))∧PySem.Within mA (fs.map (·.1))
 | .own _=>∃ o,h.get? a=some o
 | .xd fs=>∃ mA,h.Ns1 a mA∧∀ f,qky (fs.lookup f) (mA f)
 | .rng lo hi=>∃ t u v,h.get? a=some { cls:=.type "range",data:=.fields #[.int lo t,.int hi u,.int 1 v] }
 | .frz o u=>h.get? a=some o∧qat H h a u
 | .tbl ps=>h.get? a=some { cls:=.none,data:=.fields ps }
 | .met f x=>h.get? a=some (PySem.W.methodObj (.ref f) (.ref x))
 | .ext φ=>φ h∧(∃ o,h.get? a=some o)∧∀ h1 h2:Heap,φ h1→(∀ o,h1.get? a=some o→h2.get? a=some o)→φ h2
noncomputable def HOk (H:Hp) (h:Heap):Prop:=∀ a o,H a=some o→qat P w H h a o
end
section
variable {P:Program} {w:World} {H H':Hp} {h h':Heap} {a:Addr} {o:HO}
theorem qat.lt (x:qat P w H h a o):a < h.objs.size:=by
 cases o with
 | lst xs=>obtain ⟨_,_,_,_,e⟩:=x;exact Heap.lt_size e
 | tup xs=>obtain ⟨_,_,_,p⟩:=x;exact p.lt
 | dK kvs=>obtain ⟨_,_,_,_,o,_,_,e,_⟩:=x;exact Heap.lt_size e
 | dT kvs=>obtain ⟨_,_,_,_,o,_,_,e,_⟩:=x;exact Heap.lt_size e
 | set S n=>obtain ⟨o,_,_,_,e,_⟩:=x;exact Heap.lt_size e
 | ins C dx fs=>obtain ⟨_,_,_,e,_⟩:=x;exact Heap.lt_size e
 | own y=>obtain ⟨_,e⟩:=x;exact Heap.lt_size e
 | xd fs=>obtain ⟨_,⟨_,_,_,e,_⟩,_⟩:=x;exact Heap.lt_size e
 | rng lo hi=>obtain ⟨_,_,_,e⟩:=x;exact Heap.lt_size e
 | frz ob u=>obtain ⟨e,_⟩:=x;exact Heap.lt_size e
 | tbl ps=>exact Heap.lt_size (show h.get? a=some _ from x)
 | met f y=>exact Heap.lt_size (show h.get? a=some _ from x)
 | ext φ=>obtain ⟨_,⟨_,e⟩,_⟩:=x;exact Heap.lt_size e
theorem Paired.mapP {α β:Type} {F G:α→β→Prop}:∀ {l₁:List α} {l₂:List β},Paired F l₁ l₂→(∀ a b,F a b→G a b)→Paired G l₁ l₂
 | _,_,.nil,_=>.nil
 | _,_,.cons r t,f=>.cons (f _ _ r) (Paired.mapP t f)
theorem qat.stay (x:qat P w H h a o) (k:∀ b u,(b=a∨H b=some (.own a))→h.get? b=some u→h'.get? b=some u)
   (ho:∀ b,H b=some (.own a)→H' b=some (.own a)) (ht:∀ b xs,H b=some (.tup xs)→H' b=some (.tup xs)):qat P w H' h' a o:=by
 induction o with
 | lst xs=>obtain ⟨z,its,n,r,e⟩:=x;exact⟨z,its,n,r,k _ _ (.inl rfl) e⟩
 | tup xs=>obtain ⟨z,its,r,ob,e,c⟩:=x;exact⟨z,its,r,ob,k _ _ (.inl rfl) e,c⟩
 | dK kvs=>obtain ⟨z,y,vs,r,ob,es,ep,e,c⟩:=x;exact⟨z,y,vs,r,ob,es,ep,k _ _ (.inl rfl) e,c⟩
 | dT kvs =>
   obtain ⟨z,y,xs,r,ob,es,ep,e,c⟩:=x
   exact⟨z,y,xs,Paired.mapP r fun p q z=>⟨z.1,ht _ _ z.2.1,z.2.2⟩,ob,es,ep,k _ _ (.inl rfl) e,c⟩
 | set S n=>obtain ⟨ob,es,ep,t,e,c⟩:=x;exact⟨ob,es,ep,t,k _ _ (.inl rfl) e,c⟩
 | ins C dx fs =>
   obtain ⟨d,z,ne,e,mA,⟨od,es,ep,e2,c⟩,r⟩:=x
   exact⟨ho _ d,z,ne,k _ _ (.inl rfl) e,mA,⟨od,es,ep,k _ _ (.inr d) e2,c⟩,r⟩
 | own y=>obtain ⟨ob,e⟩:=x;exact⟨ob,k _ _ (.inl rfl) e⟩
 | xd fs=>obtain ⟨mA,⟨od,es,ep,e,c⟩,r⟩:=x;exact⟨mA,⟨od,es,ep,k _ _ (.inl rfl) e,c⟩,r⟩
 | rng lo hi=>obtain ⟨t,u,v,e⟩:=x;exact⟨t,u,v,k _ _ (.inl rfl) e⟩
 | frz ob u ih=>obtain ⟨e,q⟩:=x;exact⟨k _ _ (.inl rfl) e,ih q⟩
 | tbl ps =>
   have e:h.get? a=some { cls:=.none,data:=.fields ps }:=x
   show h'.get? a=some { cls:=.none,data:=.fields ps }
   exact k a _ (.inl rfl) e
 | met f y =>
   have e:h.get? a=some (PySem.W.methodObj (.ref f) (.ref y)):=x
   show h'.get? a=some (PySem.W.methodObj (.ref f) (.ref y))
   exact k a _ (.inl rfl) e
 | ext φ=>obtain ⟨p,⟨o,e⟩,st⟩:=x;exact⟨st _ _ p fun o q=>k _ _ (.inl rfl) q,⟨o,k _ _ (.inl rfl) e⟩,st⟩
theorem HOk.lt (x:HOk P w H h) (e:H a=some o):a < h.objs.size:=(x a o e).lt
theorem HOk.fresh (x:HOk P w H h) (e:h.objs.size≤a):H a=none:=by
 cases q:H a with
 | none=>rfl
 | some u=>exact absurd (Nat.lt_of_lt_of_le (x.lt q) e) (Nat.lt_irrefl _)
theorem HOk.kept (x:HOk P w H h) (k:∀ b u,h.get? b=some u→h'.get? b=some u):HOk P w H h':=fun a o e =>
 (x a o e).stay (fun b u _ q=>k b u q) (fun _ q=>q) fun _ _ q=>q
theorem HOk.laid (x:HOk P w H h) (k:∀ b u,h.get? b=some u→h'.get? b=some u) (hp:h.objs.size≤a) (new:qat P w (upd H a o) h' a o):HOk P w (upd H a o) h':=fun b u e=>by
 have hn:=x.fresh hp
 by_cases hb:b=a
 · subst hb;rw[qi]at e;cases e;exact new
 · rw[qc hb]at e
   exact(x b u e).stay (fun c v _ q=>k c v q) (fun c q=>by rw[qc (q9 q hn)];exact q) fun c xs q=>by rw[qc (q9 q hn)];exact q
end
noncomputable def Rd (H:Hp) (a:Addr) (u:HO):Prop:=H a=some u∨∃ o,H a=some (.frz o u)
theorem Rd.ok {P:Program} {w:World} {H:Hp} {h:Heap} {a:Addr} {u:HO} (r:Rd H a u) (x:HOk P w H h):qat P w H h a u:=by
 rcases r with r | ⟨o,r⟩
 · exact x a u r
 · obtain ⟨_,q⟩:=x a _ r
   exact q
noncomputable def Mut:Option HO→Prop
 | some (.lst _)=>True
 | some (.dK _)=>True
 | some (.dT _)=>True
 | some (.set _ _)=>True
 | some (.ins _ _ _)=>True
 | some (.ext _)=>True
 | _=>False
section
variable {P:Program} {w:World} {H:Hp} {h h':Heap} {x e:Addr} {o':HO}
theorem HOk.write (ok:HOk P w H h) (mu:Mut (H x)) (he:e=x∨H e=some (.own x)) (k:∀ b u,b ≠ e→h.get? b=some u→h'.get? b=some u) (heo:∃ u,h'.get? e=some u)
   (new:qat P w (upd H x o') h' x o'):HOk P w (upd H x o') h':=fun b u q=>by
 have nown:∀ c y,H c=some (.own y)→c ≠ x:=fun c y r z=>by subst z;rw[r]at mu;exact mu
 have ntup:∀ c xs,H c=some (.tup xs)→c ≠ x:=fun c xs r z=>by subst z;rw[r]at mu;exact mu
 by_cases hb:b=x
 · subst hb;rw[qi]at q;cases q;exact new
 · rw [qc hb]at q
   by_cases hbe:b=e
   · have q':H b=some (.own x):=by
       rcases he with z | z
       · exact absurd (hbe.trans z) hb
       · rw[hbe];exact z
     rw[q]at q';cases q'
     obtain ⟨v,hv⟩:=heo
     exact⟨v,by rw[hbe];exact hv⟩
   · refine(ok b u q).stay (fun c v hc r=>k c v ?_ r) (fun c r=>by rw[qc (nown c b r)];exact r) fun c xs r=>by rw[qc (ntup c xs r)];exact r
     rcases hc with rfl | hc
     · exact hbe
     · rintro rfl
       rcases he with z | z
       · exact nown c b hc z
       · rw[hc]at z;cases z;exact hb rfl
end
structure Un (fs ex:List Addr) (H H':Hp) (h h':Heap):Prop where
 keep:∀ b o,h.get? b=some o→H b=none→b ∉ fs→b ∉ ex→h'.get? b=some o
 slot:∀ b o,h.get? b=some o→H b=none→b ∈ fs→b ∉ ex→∃ sl,h'.get? b=some { o with slots:=sl }
 free:∀ b o,h.get? b=some o→H b=none→b ∉ ex→H' b=none
 there:∀ b o,h.get? b=some o→b ∉ ex→∃ o',h'.get? b=some o'
 tups:∀ b xs,H b=some (.tup xs)→H' b=some (.tup xs)
 frzs:∀ b o u,H b=some (.frz o u)→H' b=some (.frz o u)
 tbls:∀ b ps,H b=some (.tbl ps)→∃ more,H' b=some (.tbl (ps++more))
section
variable {fs fs' ex ex':List Addr} {H H1 H2:Hp} {h h1 h2 h':Heap} {a x e:Addr} {o:HO}
theorem Un.any (u:Un fs ex H H1 h h1) {b:Addr} {ob:Obj} (q:h.get? b=some ob) (n:H b=none) (hx:b ∉ ex):∃ sl,h1.get? b=some { ob with slots:=sl }:=by
 by_cases hb:b ∈ fs
 · exact u.slot b ob q n hb hx
 · exact⟨ob.slots,u.keep b ob q n hb hx⟩
theorem Un.kept (k:∀ b u,h.get? b=some u→h'.get? b=some u):Un fs ex H H h h' :=
 ⟨fun b ob q _ _ _=>k b ob q,fun b ob q _ _ _=>⟨ob.slots,k b ob q⟩,fun _ _ _ n _=>n,fun b ob q _=>⟨ob,k b ob q⟩,fun _ _ q=>q,fun _ _ _ q=>q,fun _ ps q=>⟨#[],by rw[q];simp⟩⟩
theorem Un.refl:Un fs ex H H h h:=Un.kept fun _ _ q=>q
theorem Un.laid (k:∀ b u,h.get? b=some u→h'.get? b=some u) (hp:h.objs.size≤a) (hn:H a=none):Un fs ex H (upd H a o) h h' where
 keep:=fun b u q _ _ _=>k b u q
 slot:=fun b u q _ _ _=>⟨u.slots,k b u q⟩
 free:=fun b u q n _=>by rw[qc (Nat.ne_of_lt (Nat.lt_of_lt_of_le (Heap.lt_size q) hp))];exact n
 there:=fun b u q _=>⟨u,k b u q⟩
 tups:=fun b xs q=>by rw[qc (q9 q hn)];exact q
 frzs:=fun b u xs q=>by rw[qc (q9 q hn)];exact q
 tbls:=fun b ps q=>⟨#[],by rw[qc (q9 q hn),q];simp⟩
theorem Un.write (mu:Mut (H x)) (he:e=x∨H e=some (.own x)) (k:∀ b u,b ≠ e→h.get? b=some u→h'.get? b=some u) (heo:∃ u,h'.get? e=some u):Un fs ex H (upd H x o) h h':=by
 have hx:∀ b,H b=none→b ≠ x:=fun b n z=>by subst z;rw[n]at mu;exact mu
 have hb:∀ b,H b=none→b ≠ e:=fun b n z=>by
   subst z
   rcases he with r | r
   · exact hx b n r
   · rw[n]at r;cases r
 have hm:∀ b u,H b=some u→¬ Mut (some u)→b ≠ x:=fun b u q nm z=>by subst z;rw[q]at mu;exact nm mu
 refine⟨fun b u q n _ _=>k b u (hb b n) q,fun b u q n _ _=>⟨u.slots,k b u (hb b n) q⟩,fun b u q n _=>by rw[qc (hx b n)];exact n,fun b u q _=> ?_,
   fun b xs q=>by rw[qc (hm b _ q fun z=>z)];exact q,fun b u xs q=>by rw[qc (hm b _ q fun z=>z)];exact q,fun b ps q=>⟨#[],by rw[qc (hm b _ q fun z=>z),q];simp⟩⟩
 by_cases hbe:b=e
 · subst hbe;exact heo
 · exact⟨u,k b u hbe q⟩
end
noncomputable def trk (h:Heap) (H:Hp):List Addr:=(List.range h.objs.size).filter fun a=>(H a).isSome
noncomputable def qpb (h:Heap) (H:Hp):Heap:=PySem.W.hideAll h (trk h H)
theorem qwy (h:Heap) (H:Hp):(qpb h H).objs.size=h.objs.size:=PySem.W.hideAll_size _ _
theorem qyf {h:Heap} {H:Hp} {b:Addr} {o:Obj} (e:h.get? b=some o) (n:H b=none):(qpb h H).get? b=some o :=
 PySem.W.hideAll_get _ e fun hm=>by
   have q:(H b).isSome=true:=(List.mem_filter.mp hm).2
   rw[n]at q;simp at q
theorem q1o {h:Heap} {H:Hp} {b:Addr} {o:Obj} (e:(qpb h H).get? b=some o):h.get? b=some o∧H b=none:=by
 have e':h.get? b=some o:=PySem.W.of_hideAll (trk h H) e
 refine⟨e',?_⟩
 cases q:H b with
 | none=>rfl
 | some x =>
   have hm:b ∈ trk h H:=List.mem_filter.mpr ⟨List.mem_range.mpr (Heap.lt_size e'),by simp [q]⟩
   have z:(qpb h H).get? b=none:=PySem.W.hideAll_none (trk h H) hm
   rw[z]at e;cases e
structure Mod (K:PySem.W.Frag) (mg:Str→Option Value) (base:Heap):Prop where
 kin:K.In base
 glob:base.Ns mainGlobals mg
 blt:∃ mb,base.Ns builtinsNs mb∧∀ x:Str,x ≠ "__name__"→mb x=bootBuiltins x
 nolimit:base.NoLimit
set_option genInjectivity false in
structure Cx where
 prog:Program
 w:World
 K:PySem.W.Frag
 mg:Str→Option Value
 base:Heap
 A:Around
 N:List Str
 s₀:Shared
 H₀:Hp
 env:Env
 outer:List Env
 stack:List Env
 ex:List Addr
 fn:Str→Bool
 calm:Bool
 pn:List (Addr × Obj)
 xe:Value→Shared→Prop
noncomputable def frs (l:List Env):List Addr:=l.filterMap (·.frame)
noncomputable abbrev Cx.fs (X:Cx):List Addr:=frs X.outer
noncomputable def Vis (sc:Scope) (x:Str):Prop:=sc.names.lookup x=some .local∨sc.names.lookup x=some .cell∨sc.names.lookup x=some .free
noncomputable def Loc (sc:Scope) (x:Str):Prop:=sc.names.lookup x=some .local∨sc.names.lookup x=some .cell
noncomputable def Look (env:Env) (h:Heap) (m:Str→Option Value) (x:Str) (u:Value):Prop :=
 (env.kindOf x=some .local∧m x=some u)∨((env.kindOf x=some .cell∨env.kindOf x=some .free)∧∃ c,env.cells.lookup x=some c∧h.IsCell c (some u))
set_option genInjectivity false in
structure Cx.Ok (X:Cx):Prop where
 mod:Mod X.K X.mg X.base
 kind:X.env.scope.kind=.function
 glob:X.env.globals=mainGlobals
 blt:X.env.builtins=builtinsNs
 above:X.s₀.heap.objs.size≤X.env.locals
 inj:∀ x y c,X.env.cells.lookup x=some c→X.env.cells.lookup y=some c→x=y
 has:∀ x,(X.env.kindOf x=some .cell∨X.env.kindOf x=some .free)→∃ c,X.env.cells.lookup x=some c
 cab:∀ x c,X.fn x=true→X.env.cells.lookup x=some c→X.s₀.heap.objs.size≤c
 hd:X.calm=true→X.A.handled=none
 frames:X.A.frames=some X.stack
 stk:X.stack=X.outer∨(X.stack=X.env::X.outer∧X.env.frame=some X.env.locals)
 exf:∀ b ∈ X.ex,b ≠ X.env.locals∧∀ x c,X.env.cells.lookup x=some c→c ≠ b
 bs:∀ b o,X.base.get? b=some o→X.s₀.heap.get? b=some o∧X.H₀ b=none
 bsz:X.base.objs.size≤X.s₀.heap.objs.size
 noex:∀ b o,X.base.get? b=some o→b ∉ X.ex
 exfs:∀ b ∈ X.ex,b ∉ X.fs
 funs:X.s₀.heap.FunFrames X.base X.outer
 frf:∀ b ∈ X.fs,X.H₀ b=none
structure Inv (X:Cx) (pins:List (Addr × Obj)) (σ:List (Option V)) (H:Hp) (s:Shared):Prop where
 ok:X.Ok
 os:s.os=X.s₀.os
 bare:AllBare s.gens
 base:Un X.fs X.ex X.H₀ H X.s₀.heap s.heap
 loc:∃ m,s.heap.Ns X.env.locals m∧∀ (i:Nat) (x:Str) (v:V),X.N[i]? =some x→σ[i]? =some (some v)→Vis X.env.scope x→∃ u,RelV v u∧Look X.env s.heap m x u
 cell:∀ x c,X.env.cells.lookup x=some c→∃ v,s.heap.IsCell c v
 free:H X.env.locals=none
 freeC:∀ x c,X.env.cells.lookup x=some c→H c=none
 pin:∀ p ∈ X.pn++pins,s.heap.get? p.1=some p.2∧H p.1=none∧p.1 ≠ X.env.locals∧p.1 ∉ X.fs∧∀ v,p.2.data ≠ .cell v
 hok:HOk X.prog X.w H s.heap
 len:σ.length=X.N.length
section
variable {X:Cx} {pins:List (Addr × Obj)} {σ:List (Option V)} {H H':Hp} {s:Shared} {h':Heap}
theorem Cx.Ok.nofr (ok:X.Ok) {b:Addr} {o:Obj} (e:X.base.get? b=some o):b ∉ X.fs:=fun hb=>by
 have:=(ok.funs.mem hb).1
 rw[e]at this;cases this
theorem Inv.bs (I:Inv X pins σ H s):∀ b o,X.base.get? b=some o→s.heap.get? b=some o∧H b=none:=fun b o e =>
 ⟨I.base.keep b o (I.ok.bs b o e).1 (I.ok.bs b o e).2 (I.ok.nofr e) (I.ok.noex b o e),I.base.free b o (I.ok.bs b o e).1 (I.ok.bs b o e).2 (I.ok.noex b o e)⟩
theorem Inv.bk (I:Inv X pins σ H s):∀ b o,X.base.get? b=some o→s.heap.get? b=some o:=fun b o e=>(I.bs b o e).1
theorem Inv.mod (I:Inv X pins σ H s):Mod X.K X.mg X.base:=I.ok.mod
theorem Inv.kIn (I:Inv X pins σ H s):X.K.In s.heap:=I.ok.mod.kin.keeps I.bk
theorem Inv.lt (I:Inv X pins σ H s):X.env.locals < s.heap.objs.size:=let ⟨_,hn,_⟩:=I.loc;hn.lt
theorem Inv.sz (I:Inv X pins σ H s):X.s₀.heap.objs.size≤s.heap.objs.size:=Nat.le_trans I.ok.above (Nat.le_of_lt I.lt)
theorem Inv.nofs (I:Inv X pins σ H s) {a:Addr} (h:s.heap.objs.size≤a):a ∉ X.fs:=fun hb=>by
 obtain ⟨_,o,ho,_⟩:=I.ok.funs.mem hb
 exact absurd (Nat.lt_of_lt_of_le (Heap.lt_size ho) (Nat.le_trans I.sz h)) (Nat.lt_irrefl _)
theorem Inv.cne (I:Inv X pins σ H s):∀ x c,X.env.cells.lookup x=some c→c ≠ X.env.locals:=fun x c e z=>by
 obtain ⟨v,o,ho,hd⟩:=I.cell x c e
 obtain ⟨m,⟨o',es,ep,ho',hd',_⟩,_⟩:=I.loc
 rw[z,ho']at ho;cases ho;rw[hd']at hd;cases hd
theorem Inv.funs (I:Inv X pins σ H s):s.heap.FunFrames X.base X.outer:=by
 have all:∀ (l:List Env),(∀ b ∈ frs l,b ∈ X.fs)→X.s₀.heap.FunFrames X.base l→s.heap.FunFrames X.base l:=by
   intro l
   induction l with
   | nil=>intro _ _;trivial
   | cons env r ih =>
     intro hs hl
     obtain ⟨hk,⟨L,o,hf,hn,ho,hd⟩,hr⟩:=hl
     have hL:L ∈ X.fs:=hs L (by unfold frs;rw[List.filterMap_cons,hf];exact List.mem_cons_self)
     obtain ⟨sl,e⟩:=I.base.slot L o ho (I.ok.frf L hL) hL fun z=>I.ok.exfs L z hL
     exact⟨hk,⟨L,_,hf,hn,e,hd⟩,ih (fun b hb=>hs b (by unfold frs;rw[List.filterMap_cons,hf];exact List.mem_cons_of_mem _ hb)) hr⟩
 exact all X.outer (fun _ hb=>hb) I.ok.funs
theorem Inv.stack (I:Inv X pins σ H s):s.heap.FunFrames X.base X.stack:=by
 rcases I.ok.stk with e | ⟨e,hf⟩
 · rw[e];exact I.funs
 · rw[e]
   obtain ⟨m,hn,_⟩:=I.loc
   refine .cons (by rw[I.ok.kind];decide) hf hn ?_ I.funs
   exact Heap.get?_none_of_le (Nat.le_trans I.ok.bsz I.ok.above)
theorem Inv.stkSub (I:Inv X pins σ H s):∀ b ∈ frs X.stack,b ∈ X.env.locals::X.fs:=fun b hb=>by
 rcases I.ok.stk with e | ⟨e,hf⟩
 · rw[e]at hb;exact List.mem_cons_of_mem _ hb
 · rw[e]at hb
   unfold frs at hb
   rw[List.filterMap_cons,hf]at hb
   exact hb
theorem Inv.stkFree (I:Inv X pins σ H s):∀ b ∈ frs X.stack,H b=none:=fun b hb=>by
 rcases List.mem_cons.mp (I.stkSub b hb)with e | hb
 · rw[e];exact I.free
 · obtain ⟨_,o,ho,_⟩:=I.ok.funs.mem hb
   exact I.base.free b o ho (I.ok.frf b hb) fun z=>I.ok.exfs b z hb
theorem Inv.step {g':Array GenState} {t':Nat} {d':Drawn} {ch:List Addr} (I:Inv X pins σ H s)
   (hch:∀ b ∈ ch,(b ∈ X.ex∨X.s₀.heap.objs.size≤b)∧b ≠ X.env.locals∧(∀ x c,X.env.cells.lookup x=some c→c ≠ b)∧∀ p ∈ X.pn++pins,p.1 ≠ b)
   (keep:∀ b o,b ≠ X.env.locals→b ∉ X.fs→b ∉ ch→s.heap.get? b=some o→H b=none→h'.get? b=some o)
   (slot:∀ b o,b ≠ X.env.locals→b ∈ X.fs→b ∉ ch→s.heap.get? b=some o→H b=none→∃ sl,h'.get? b=some { o with slots:=sl }) (free:∀ b o,b ∉ ch→s.heap.get? b=some o→H b=none→H' b=none)
   (there:∀ b o,b ∉ ch→s.heap.get? b=some o→∃ o',h'.get? b=some o')
   (tups:∀ b xs,H b=some (.tup xs)→H' b=some (.tup xs)) (frzs:∀ b o u,H b=some (.frz o u)→H' b=some (.frz o u)) (tbls:∀ b ps,H b=some (.tbl ps)→∃ more,H' b=some (.tbl (ps++more)))
   (ns:∀ m,s.heap.Ns X.env.locals m→h'.Ns X.env.locals m) (hok:HOk X.prog X.w H' h') (hg:AllBare g') :
   Inv X pins σ H' { s with heap:=h',gens:=g',drawn:=d',toks:=t' }:=by
 have neL:∀ b o,X.s₀.heap.get? b=some o→b ≠ X.env.locals:=fun b o e=>Nat.ne_of_lt (Nat.lt_of_lt_of_le (Heap.lt_size e) I.ok.above)
 have neC:∀ b o,X.s₀.heap.get? b=some o→b ∉ X.ex→b ∉ ch:=fun b o e hx hb=>by
   rcases (hch b hb).1 with z | z
   · exact hx z
   · exact absurd (Nat.lt_of_lt_of_le (Heap.lt_size e) z) (Nat.lt_irrefl _)
 have cellK:∀ x c,X.env.cells.lookup x=some c→∀ v,s.heap.IsCell c v→h'.IsCell c v:=fun x c e v ⟨o,ho,hd⟩=>by
   have nch:c ∉ ch:=fun z=>(hch c z).2.2.1 x c e rfl
   by_cases hc:c ∈ X.fs
   · obtain ⟨sl,q⟩:=slot c o (I.cne x c e) hc nch ho (I.freeC x c e)
     exact⟨_,q,hd⟩
   · exact⟨o,keep c o (I.cne x c e) hc nch ho (I.freeC x c e),hd⟩
 refine⟨I.ok,I.os,hg,⟨fun b o e n hb hx=> ?_,fun b o e n hb hx=> ?_,fun b o e n hx=> ?_,fun b o e hx=> ?_,fun b xs e=>tups b xs (I.base.tups b xs e),fun b o xs e=>frzs b o xs (I.base.frzs b o xs e),fun b ps e=> ?_⟩,?_,fun x c e=> ?_,?_,fun x c e=> ?_,fun p hp=> ?_,hok,I.len⟩
 · exact keep b o (neL b o e) hb (neC b o e hx) (I.base.keep b o e n hb hx) (I.base.free b o e n hx)
 · obtain ⟨sl,e1⟩:=I.base.slot b o e n hb hx
   obtain ⟨sl',e2⟩:=slot b _ (neL b o e) hb (neC b o e hx) e1 (I.base.free b o e n hx)
   exact⟨sl',e2⟩
 · obtain ⟨o',e1⟩:=I.base.there b o e hx
   exact free b o' (neC b o e hx) e1 (I.base.free b o e n hx)
 · obtain ⟨o',e1⟩:=I.base.there b o e hx
   exact there b o' (neC b o e hx) e1
 · obtain ⟨m1,e1⟩:=I.base.tbls b ps e
   obtain ⟨m2,e2⟩:=tbls b _ e1
   exact⟨m1++m2,by rw[e2,Array.append_assoc]⟩
 · obtain ⟨m,hn,hl⟩:=I.loc
   refine⟨m,ns m hn,fun i x v e1 e2 e3=> ?_⟩
   obtain ⟨u,r,l⟩:=hl i x v e1 e2 e3
   refine⟨u,r,?_⟩
   rcases l with l | ⟨k,c,e,z⟩
   · exact .inl l
   · exact .inr ⟨k,c,e,cellK x c e _ z⟩
 · obtain ⟨v,z⟩:=I.cell x c e
   exact⟨v,cellK x c e v z⟩
 · obtain ⟨m,⟨o,_,_,ho,_⟩,_⟩:=I.loc
   exact free _ o (fun z=>(hch _ z).2.1 rfl) ho I.free
 · obtain ⟨v,o,ho,hd⟩:=I.cell x c e
   exact free c o (fun z=>(hch c z).2.2.1 x c e rfl) ho (I.freeC x c e)
 · obtain ⟨e,n,ne,nf,d⟩:=I.pin p hp
   have nch:p.1 ∉ ch:=fun z=>(hch p.1 z).2.2.2 p hp rfl
   exact⟨keep p.1 p.2 ne nf nch e n,free p.1 p.2 nch e n,ne,nf,d⟩
theorem Inv.un {t':Nat} (I:Inv X pins σ H s) (u:Un X.fs [] H H' s.heap h') (hok:HOk X.prog X.w H' h'):Inv X pins σ H' { s with heap:=h',toks:=t' }:=by
 obtain ⟨m,⟨o,es,ep,ho,r⟩,_⟩:=id I.loc
 obtain ⟨sl,hL⟩:=u.any ho I.free (by simp)
 exact I.step (g':=s.gens) (d':=s.drawn) (ch:=[]) (fun _ z=>nomatch z) (fun b o _ hb _ e n=>u.keep b o e n hb (by simp)) (fun b o _ hb _ e n=>u.slot b o e n hb (by simp)) (fun b o _ e n=>u.free b o e n (by simp)) (fun b o _ e=>u.there b o e (by simp)) u.tups u.frzs u.tbls (fun m' hm=>by
   obtain ⟨o',es',ep',ho',r'⟩:=hm
   rw[ho]at ho';cases ho'
   exact⟨_,es',ep',hL,r'⟩) hok I.bare
theorem Inv.call {g':Array GenState} {t':Nat} {d':Drawn} {ch:List Addr} (I:Inv X pins σ H s) (u:Un (frs X.stack) ch H H' s.heap h') (hok:HOk X.prog X.w H' h') (hg:AllBare g')
   (hch:∀ b ∈ ch,(b ∈ X.ex∨X.s₀.heap.objs.size≤b)∧b ≠ X.env.locals∧(∀ x c,X.env.cells.lookup x=some c→c ≠ b)∧∀ p ∈ X.pn++pins,p.1 ≠ b) :
   Inv X pins σ H' { s with heap:=h',gens:=g',drawn:=d',toks:=t' }:=by
 obtain ⟨m,⟨o,es,ep,ho,r⟩,_⟩:=id I.loc
 obtain ⟨sl,hL⟩:=u.any ho I.free fun z=>(hch _ z).2.1 rfl
 exact I.step (ch:=ch) hch (fun b o hL hb hc e n=>u.keep b o e n (fun z=>(List.mem_cons.mp (I.stkSub b z)).elim hL hb) hc) (fun b o _ _ hc e n=>u.any e n hc) (fun b o hc e n=>u.free b o e n hc) (fun b o hc e=>u.there b o e hc) u.tups u.frzs u.tbls (fun m' hm=>by
   obtain ⟨o',es',ep',ho',r'⟩:=hm
   rw[ho]at ho';cases ho'
   exact⟨_,es',ep',hL,r'⟩) hok hg
theorem Inv.turned {t':Nat} {it:Addr} (I:Inv X pins σ H s) (k:∀ b o,b ≠ it→s.heap.get? b=some o→h'.get? b=some o) (hn:H it=none) (hL:it ≠ X.env.locals)
   (h1:it ∈ X.ex∨X.s₀.heap.objs.size≤it) (h2:∀ x c,X.env.cells.lookup x=some c→c ≠ it) (h3:∀ p ∈ X.pn++pins,p.1 ≠ it):Inv X pins σ H { s with heap:=h',toks:=t' }:=by
 have nit:∀ b u,H b=some u→b ≠ it:=fun b u e z=>by rw[z,hn]at e;cases e
 refine I.step (g':=s.gens) (d':=s.drawn) (ch:=[it]) (fun b hb=> ?_) (fun b o _ _ hc e _=>k b o (fun z=>hc (by simp [z])) e) (fun b o _ _ hc e _=>⟨o.slots,k b o (fun z=>hc (by simp [z])) e⟩) (fun _ _ _ _ n=>n)
   (fun b o hc e=>⟨o,k b o (fun z=>hc (by simp [z])) e⟩) (fun _ _ e=>e) (fun _ _ _ e=>e) (fun b ps e=>⟨#[],by rw[e];simp⟩) (fun m hm=> ?_) (fun b u e=> ?_) I.bare
 · have e:b=it:=by simpa using hb
   subst e
   exact⟨h1,hL,h2,h3⟩
 · obtain ⟨o,es,ep,ho,r⟩:=hm
   exact⟨o,es,ep,k _ o (Ne.symm hL) ho,r⟩
 · refine(I.hok b u e).stay (fun c v hc q=>k c v ?_ q) (fun _ q=>q) fun _ _ q=>q
   rcases hc with z | z
   · rw[z];exact nit b u e
   · exact nit c _ z
theorem Inv.tok (I:Inv X pins σ H s) (t:Nat):Inv X pins σ H { s with toks:=t }:=I.un (h':=s.heap) (t':=t) Un.refl I.hok
theorem Inv.kept {t':Nat} (I:Inv X pins σ H s) (k:∀ b u,s.heap.get? b=some u→h'.get? b=some u):Inv X pins σ H { s with heap:=h',toks:=t' }:=I.un (Un.kept k) (I.hok.kept k)
theorem Inv.laid {a:Addr} {o:HO} {t':Nat} (I:Inv X pins σ H s) (k:∀ b u,s.heap.get? b=some u→h'.get? b=some u) (hp:s.heap.objs.size≤a) (new:qat X.prog X.w (upd H a o) h' a o) :
   Inv X pins σ (upd H a o) { s with heap:=h',toks:=t' }:=I.un (Un.laid k hp (I.hok.fresh hp)) (I.hok.laid k hp new)
theorem Inv.write {x e:Addr} {o:HO} {t':Nat} (I:Inv X pins σ H s) (mu:Mut (H x)) (he:e=x∨H e=some (.own x)) (k:∀ b u,b ≠ e→s.heap.get? b=some u→h'.get? b=some u) (heo:∃ u,h'.get? e=some u)
   (new:qat X.prog X.w (upd H x o) h' x o):Inv X pins σ (upd H x o) { s with heap:=h',toks:=t' }:=I.un (Un.write mu he k heo) (I.hok.write mu he k heo new)
theorem Inv.weak {σ':List (Option V)} (I:Inv X pins σ H s) (hl:σ'.length=σ.length) (w:∀ (i:Nat) v,σ'[i]? =some (some v)→σ[i]? =some (some v)):Inv X pins σ' H s :=
 ⟨I.ok,I.os,I.bare,I.base,let ⟨m,hn,hl'⟩:=I.loc;⟨m,hn,fun i x v e1 e2 e3=>hl' i x v e1 (w i v e2) e3⟩,I.cell,I.free,I.freeC,I.pin,I.hok,hl.trans I.len⟩
theorem Inv.pins_of {pins':List (Addr × Obj)} (I:Inv X pins σ H s) (h:∀ p ∈ pins',s.heap.get? p.1=some p.2∧H p.1=none∧p.1 ≠ X.env.locals∧p.1 ∉ X.fs∧∀ v,p.2.data ≠ .cell v):Inv X pins' σ H s :=
 ⟨I.ok,I.os,I.bare,I.base,I.loc,I.cell,I.free,I.freeC,fun p hp=>(List.mem_append.mp hp).elim (fun z=>I.pin p (List.mem_append_left _ z)) (h p),I.hok,I.len⟩
theorem qre {N:List Str} (hN:N.Nodup) {i j:Nat} {x:Str} (a:N[i]? =some x) (b:N[j]? =some x):i=j:=by
 obtain ⟨h1,e1⟩:=List.getElem?_eq_some_iff.mp a
 obtain ⟨h2,e2⟩:=List.getElem?_eq_some_iff.mp b
 exact(List.getElem_inj hN).mp (e1.trans e2.symm)
theorem qh7 {M:Model} {A:Around} {E:Value→Shared→Prop} {i:Nat} {x:Str} {v:V} {u:Value} {Q:Unit→Shared→Prop} (I:Inv X pins σ H s) (hN:X.N.Nodup) (hi:X.N[i]? =some x) (hx:Loc X.env.scope x) (r:RelV v u)
   (h:∀ s',Inv X pins (σ.set i (some v)) H s'→(∃ a,Heap.SameBut a s.heap s'.heap∧(a=X.env.locals∨X.env.cells.lookup x=some a))→Q () s') (hf:X.fn x=true∨X.env.scope.names.lookup x=some .local:=by first | exact .inl rfl | exact .inr rfl | assumption):wpAny M A (storeName X.env x u) Q E s:=by
 obtain ⟨m,hn,hl⟩:=id I.loc
 have hcls:(X.env.scope.kind==.class || (X.env.scope.kind==.module && X.env.locals != X.env.globals))=false:=by rw[I.ok.kind];rfl
 have hiσ:i < σ.length:=by rw[I.len];exact(List.getElem?_eq_some_iff.mp hi).1
 have cne:=I.cne
 have tracked:∀ {a:Addr} {h':Heap},(∃ o,s.heap.get? a=some o∧H a=none)→Heap.SameBut a s.heap h'→HOk X.prog X.w H h':=fun {a h'} ha hs b ob e=>by
   obtain ⟨_,_,hfree⟩:=ha
   refine(I.hok b ob e).stay (fun c w' hc q=>(hs.2 c ?_).trans q) (fun _ q=>q) fun _ _ q=>q
   rintro rfl
   rcases hc with rfl | hc
   · rw[hfree]at e;cases e
   · rw[hfree]at hc;cases hc
 rcases hx with hk | hk
 · refine wpAny_storeName_local hk hn (fun h' hn' hs=> ?_) hcls
   obtain ⟨oL,_,_,hoL,_⟩:=id hn
   refine h _ ⟨I.ok,I.os,I.bare,⟨fun b o e n hb hx=> ?_,fun b o e n hb hx=> ?_,I.base.free,fun b o e hx=> ?_,I.base.tups,I.base.frzs,I.base.tbls⟩,⟨_,hn',fun j y v' e1 e2 e3=> ?_⟩,fun y c e=> ?_,I.free,I.freeC,fun p hp=> ?_,tracked ⟨oL,hoL,I.free⟩ hs,by simpa using I.len⟩ ⟨_,hs,.inl rfl⟩
   · exact(hs.2 b (Nat.ne_of_lt (Nat.lt_of_lt_of_le (Heap.lt_size e) I.ok.above))).trans (I.base.keep b o e n hb hx)
   · obtain ⟨sl,e1⟩:=I.base.slot b o e n hb hx
     exact⟨sl,(hs.2 b (Nat.ne_of_lt (Nat.lt_of_lt_of_le (Heap.lt_size e) I.ok.above))).trans e1⟩
   · obtain ⟨o',e1⟩:=I.base.there b o e hx
     exact⟨o',(hs.2 b (Nat.ne_of_lt (Nat.lt_of_lt_of_le (Heap.lt_size e) I.ok.above))).trans e1⟩
   · by_cases hj:j=i
     · subst hj
       rw[hi]at e1;cases e1
       rw[List.getElem?_set_self hiσ]at e2
       cases e2
       exact⟨u,r,.inl ⟨hk,by simp⟩⟩
     · rw[List.getElem?_set_ne (Ne.symm hj)]at e2
       obtain ⟨u',r',q⟩:=hl j y v' e1 e2 e3
       refine⟨u',r',?_⟩
       rcases q with ⟨k,e⟩ | ⟨k,c,e,z⟩
       · refine .inl ⟨k,?_⟩
         have:y ≠ x:=fun e=>hj (qre hN e1 (e ▸ hi))
         simp [this,e]
       · exact .inr ⟨k,c,e,z.sameBut hs (cne y c e)⟩
   · obtain ⟨w',z⟩:=I.cell y c e
     exact⟨w',z.sameBut hs (cne y c e)⟩
   · obtain ⟨e,n,ne,nf,d⟩:=I.pin p hp
     exact⟨(hs.2 p.1 ne).trans e,n,ne,nf,d⟩
 · have hfn:X.fn x=true:=by
     rcases hf with z | z
     · exact z
     · rw[z]at hk;cases hk
   obtain ⟨c,hc⟩:=I.ok.has x (.inl hk)
   obtain ⟨w',z⟩:=I.cell x c hc
   refine wpAny_storeName_cell I.ok.kind hk hc z (fun h' hc' hs=> ?_)
   obtain ⟨oc,hoc,hocd⟩:=id z
   refine h { s with heap:=h' } ⟨I.ok,I.os,I.bare,⟨fun b o e n hb hx=> ?_,fun b o e n hb hx=> ?_,I.base.free,fun b o e hx=> ?_,I.base.tups,I.base.frzs,I.base.tbls⟩,⟨m,hn.sameBut hs (Ne.symm (cne x c hc)),fun j y v' e1 e2 e3=> ?_⟩,fun y c' e=> ?_,I.free,I.freeC,fun p hp=> ?_,tracked ⟨oc,hoc,I.freeC x c hc⟩ hs,by simpa using I.len⟩ ⟨c,hs,.inr hc⟩
   · exact(hs.2 b (Nat.ne_of_lt (Nat.lt_of_lt_of_le (Heap.lt_size e) (I.ok.cab x c hfn hc)))).trans (I.base.keep b o e n hb hx)
   · obtain ⟨sl,e1⟩:=I.base.slot b o e n hb hx
     exact⟨sl,(hs.2 b (Nat.ne_of_lt (Nat.lt_of_lt_of_le (Heap.lt_size e) (I.ok.cab x c hfn hc)))).trans e1⟩
   · obtain ⟨o',e1⟩:=I.base.there b o e hx
     exact⟨o',(hs.2 b (Nat.ne_of_lt (Nat.lt_of_lt_of_le (Heap.lt_size e) (I.ok.cab x c hfn hc)))).trans e1⟩
   · by_cases hj:j=i
     · subst hj
       rw[hi]at e1;cases e1
       rw[List.getElem?_set_self hiσ]at e2
       cases e2
       exact⟨u,r,.inr ⟨.inl hk,c,hc,hc'⟩⟩
     · rw[List.getElem?_set_ne (Ne.symm hj)]at e2
       obtain ⟨u',r',q⟩:=hl j y v' e1 e2 e3
       refine⟨u',r',?_⟩
       rcases q with q | ⟨k,c',e,z'⟩
       · exact .inl q
       · refine .inr ⟨k,c',e,z'.sameBut hs ?_⟩
         rintro rfl
         exact hj (qre hN e1 (I.ok.inj _ _ _ e hc ▸ hi))
   · by_cases hcc:c'=c
     · subst hcc;exact⟨_,hc'⟩
     · obtain ⟨w2,z2⟩:=I.cell y c' e
       exact⟨w2,z2.sameBut hs hcc⟩
   · obtain ⟨e,n,ne,nf,d⟩:=I.pin p hp
     refine⟨(hs.2 p.1 ?_).trans e,n,ne,nf,d⟩
     intro q
     rw[q,hoc]at e
     have q':oc=p.2:=Option.some.inj e
     exact d w' (by rw[← q'];exact hocd)
theorem qe3 {M:Model} {A:Around} {E:Value→Shared→Prop} {i:Nat} {x:Str} {v:V} {u:Value} {Q:Unit→Shared→Prop} (I:Inv X pins σ H s) (hN:X.N.Nodup) (hi:X.N[i]? =some x) (hx:Loc X.env.scope x) (r:RelV v u)
   (h:∀ s',Inv X pins (σ.set i (some v)) H s'→Q () s') (hf:X.fn x=true∨X.env.scope.names.lookup x=some .local:=by first | exact .inl rfl | exact .inr rfl | assumption):wpAny M A (storeName X.env x u) Q E s :=
 qh7 I hN hi hx r (fun s' I' _=>h s' I') hf
theorem Inv.call' {s':Shared} {ch:List Addr} (I:Inv X pins σ H s) (ho:s'.os=s.os) (u:Un (frs X.stack) ch H H' s.heap s'.heap) (hok:HOk X.prog X.w H' s'.heap) (hg:AllBare s'.gens)
   (hch:∀ b ∈ ch,(b ∈ X.ex∨X.s₀.heap.objs.size≤b)∧b ≠ X.env.locals∧(∀ x c,X.env.cells.lookup x=some c→c ≠ b)∧∀ p ∈ X.pn++pins,p.1 ≠ b):Inv X pins σ H' s':=by
 obtain ⟨h',g',d',t',o'⟩:=s'
 have e:o'=s.os:=ho
 subst e
 exact I.call (g':=g') (t':=t') (d':=d') u hok hg hch
end
noncomputable abbrev XK:=Value→Option Addr→Hp→Prop
noncomputable abbrev St:=List (Option V)
noncomputable abbrev VK:=V→Hp→Prop
noncomputable abbrev TE:=St→Hp→VK→Prop
noncomputable abbrev TT:=St→Hp→(Bool→Hp→Prop)→Prop
noncomputable abbrev TA:=St→Hp→(List V→Hp→Prop)→Prop
set_option genInjectivity false in
structure Ends where
 nx:St→Hp→Prop
 rt:VK
 bk:St→Hp→Prop:=fun _ _=>False
 ct:St→Hp→Prop:=fun _ _=>False
noncomputable abbrev TS:=Ends→St→Hp→Prop
noncomputable def EP (X:Cx) (pins:List (Addr × Obj)) (σ:St) (Q:VK) (u:Value) (s':Shared):Prop:=∃ v H',Inv X pins σ H' s'∧RelV v u∧Q v H'
noncomputable def TP (X:Cx) (pins:List (Addr × Obj)) (σ:St) (Q:Bool→Hp→Prop) (b:Bool) (s':Shared):Prop:=∃ H',Inv X pins σ H' s'∧Q b H'
noncomputable def AP (X:Cx) (pins:List (Addr × Obj)) (σ:St) (Q:List V→Hp→Prop) (us:List Value) (s':Shared):Prop:=∃ vs H',Inv X pins σ H' s'∧Vals vs us∧Q vs H'
noncomputable def SP (X:Cx) (pins:List (Addr × Obj)) (D:Ends) (f:Flow) (s':Shared):Prop :=
 match f with
 | .next=>∃ σ' H',Inv X pins σ' H' s'∧D.nx σ' H'
 | .brk=>∃ σ' H',Inv X pins σ' H' s'∧D.bk σ' H'
 | .cont=>∃ σ' H',Inv X pins σ' H' s'∧D.ct σ' H'
 | .ret u=>∃ v σ' H',Inv X pins σ' H' s'∧RelV v u∧D.rt v H'
noncomputable def PE (X:Cx) (e:Expr) (t:TE):Prop :=
 ∀ (pins:List (Addr × Obj)) (s:Shared) (σ:St) (H:Hp) (Q:VK),Inv X pins σ H s→t σ H Q→wpAny (model X.prog X.w) X.A (eval e X.env) (EP X pins σ Q) X.xe s
noncomputable def PT (X:Cx) (e:Expr) (t:TT):Prop :=
 ∀ (pins:List (Addr × Obj)) (s:Shared) (σ:St) (H:Hp) (Q:Bool→Hp→Prop),Inv X pins σ H s→t σ H Q→wpAny (model X.prog X.w) X.A (isTrue e X.env (eval e X.env)) (TP X pins σ Q) X.xe s
noncomputable def PW (X:Cx) (e:Expr) (t:TT):Prop :=
 ∀ (whole:Sem Value) (pins:List (Addr × Obj)) (s:Shared) (σ:St) (H:Hp) (Q:Bool→Hp→Prop),Inv X pins σ H s→t σ H Q→wpAny (model X.prog X.w) X.A (isTrue e X.env whole) (TP X pins σ Q) X.xe s
theorem PW.pt {X:Cx} {e:Expr} {t:TT} (h:PW X e t):PT X e t:=h _
noncomputable def PA (X:Cx) (es:List Expr) (t:TA):Prop :=
 ∀ (pos:Pos) (pins:List (Addr × Obj)) (s:Shared) (σ:St) (H:Hp) (Q:List V→Hp→Prop),Inv X pins σ H s→t σ H Q→wpAny (model X.prog X.w) X.A (spliced (backTo pos (starEach es X.env))) (AP X pins σ Q) X.xe s
noncomputable def PS (X:Cx) (st:Stmt) (t:TS):Prop :=
 ∀ (pins:List (Addr × Obj)) (s:Shared) (σ:St) (H:Hp) (D:Ends),Inv X pins σ H s→t D σ H→wpAny (model X.prog X.w) X.A (exec st X.env) (SP X pins D) X.xe s
noncomputable def PSs (X:Cx) (st:List Stmt) (t:TS):Prop :=
 ∀ (pins:List (Addr × Obj)) (s:Shared) (σ:St) (H:Hp) (D:Ends),Inv X pins σ H s→t D σ H→wpAny (model X.prog X.w) X.A (execs st X.env) (SP X pins D) X.xe s
theorem thn {α:Type} {t:Sem α} {Q Q':α→Shared→Prop} {M:Model} {A:Around} {E:Value→Shared→Prop} {s:Shared} (h:wpAny M A t Q E s) (hQ:∀ a s,Q a s→Q' a s):wpAny M A t Q' E s:=wpAny_mono h hQ fun _ _ x=>x
section
variable {X:Cx}
noncomputable def q48 (i:Nat):TE:=fun σ H Q=>∃ v,σ[i]? =some (some v)∧Q v H
noncomputable def tC (v:V):TE:=fun _ H Q=>Q v H
theorem qt7 {i:Nat} {x:Str} {pos:Pos} (hN:X.N[i]? =some x) (hv:Vis X.env.scope x) (hd:(x==("__debug__":Str))=false:=by decide) (hcd:(x==("__classdict__":Str))=false:=by decide):PE X (.Name x pos) (q48 i):=by
 intro pins s σ H Q I h
 obtain ⟨v,e,h⟩:=h
 obtain ⟨m,hn,hl⟩:=I.loc
 obtain ⟨u,r,l⟩:=hl i x v hN e hv
 have fin:EP X pins σ Q u s:=⟨v,H,I,r,h⟩
 rcases l with ⟨hk,hm⟩ | ⟨hk,c,hc,hcell⟩
 · exact wpAny_Name (wpAny_loadName_local I.ok.kind hk hn hm fin) hd
 · rcases hk with hk | hk
   · exact wpAny_Name (wpAny_loadName_cell I.ok.kind hk hc hcell fin) hd
   · exact wpAny_Name (wpAny_loadName_free I.ok.kind hk hc hcell fin hcd) hd
theorem qkz {i j pos}:PE X (.Constant (.int i) j pos) (tC (.int i)):=fun _ _ _ H _ I h=>wpAny_Constant_int ⟨.int i,H,I.tok _,⟨_,rfl⟩,h⟩
theorem q89 {b j pos}:PE X (.Constant (.bool b) j pos) (tC (.bl b)):=fun _ _ _ H _ I h=>Constant_bool ⟨.bl b,H,I,rfl,h⟩
theorem q49 {j pos}:PE X (.Constant .none j pos) (tC .non):=fun _ _ _ H _ I h=>Constant_none ⟨.non,H,I,rfl,h⟩
theorem q5a {x j pos}:PE X (.Constant (.str x) j pos) (tC (.str x)):=fun _ _ _ H _ I h=>Calls.Constant_str ⟨.str x,H,I.tok _,⟨_,rfl⟩,h⟩
noncomputable def Gl (X:Cx) (x:Str):Prop:=X.env.kindOf x=some .globalImplicit
theorem qvg {E:Value→Shared→Prop} {pins:List (Addr × Obj)} {s:Shared} {σ:St} {H:Hp} {x:Str} {u:Value} {pos:Pos} {Q:Value→Shared→Prop} (I:Inv X pins σ H s) (hg:Gl X x) (hm:X.mg x=some u) (h:Q u s)
   (hd:(x==("__debug__":Str))=false:=by decide):wpAny (model X.prog X.w) X.A (eval (.Name x pos) X.env) Q E s :=
 Calls.Name_function_global I.ok.kind hg (Calls.loadGlobal_global (by rw[I.ok.glob];exact I.mod.glob.keeps I.bk) hm h) hd
theorem qgf {E:Value→Shared→Prop} {pins:List (Addr × Obj)} {s:Shared} {σ:St} {H:Hp} {x:Str} {u:Value} {pos:Pos} {Q:Value→Shared→Prop} (I:Inv X pins σ H s) (hg:Gl X x) (hm:X.mg x=none) (hv:bootBuiltins x=some u) (h:Q u s)
   (hn:x ≠ "__name__":=by decide) (hd:(x==("__debug__":Str))=false:=by decide):wpAny (model X.prog X.w) X.A (eval (.Name x pos) X.env) Q E s:=by
 obtain ⟨mb,h1,h2⟩:=I.mod.blt
 exact Calls.Name_function_global I.ok.kind hg (Calls.loadGlobal_builtin (by rw[I.ok.glob];exact I.mod.glob.keeps I.bk) hm (by rw[I.ok.blt];exact h1.keeps I.bk) ((h2 x hn).trans hv) h) hd
theorem q1p {x:Str} {v:V} {u:Value} {pos:Pos} (hg:Gl X x) (hm:X.mg x=none) (hv:bootBuiltins x=some u) (r:RelV v u) (hn:x ≠ "__name__":=by decide) (hd:(x==("__debug__":Str))=false:=by decide):PE X (.Name x pos) (tC v) :=
 fun _ _ _ H _ I h=>qgf I hg hm hv ⟨v,H,I,r,h⟩ hn hd
variable {a b:Expr} {ta tb:TE} {pos:Pos}
variable {tA tB':TT} {rest:List Expr}
noncomputable def tAnd (t u:TT):TT:=fun σ H Q=>t σ H fun c H1=>if c=true then u σ H1 Q else Q false H1
noncomputable def tOr (t u:TT):TT:=fun σ H Q=>t σ H fun c H1=>if c=true then Q true H1 else u σ H1 Q
noncomputable def tNot (t:TT):TT:=fun σ H Q=>t σ H fun c H1=>Q (!c) H1
theorem q1q (ha:PT X a tA):PW X (.BoolOp .And [a] pos) tA:=by
 intro wh pins s σ H Q I h
 refine isTrue_and (thn (ha pins s σ H Q I h) fun c s1 e=> ?_)
 cases c with
 | true=>exact isTrue_and_nil e
 | false=>exact e
theorem q5b (ha:PT X a tA):PW X (.BoolOp .Or [a] pos) tA:=by
 intro wh pins s σ H Q I h
 refine isTrue_or (thn (ha pins s σ H Q I h) fun c s1 e=> ?_)
 cases c with
 | false=>exact isTrue_or_nil e
 | true=>exact e
theorem q5c (ha:PT X a tA) (hb:PW X (.BoolOp .And (b::rest) pos) tB'):PW X (.BoolOp .And (a::b::rest) pos) (tAnd tA tB'):=by
 intro wh pins s σ H Q I h
 refine isTrue_and (thn (ha pins s σ H _ I h) fun c s1 ⟨H1,I1,q1⟩=> ?_)
 cases c with
 | true=>exact hb wh pins s1 σ H1 Q I1 q1
 | false=>exact⟨H1,I1,q1⟩
theorem q9a (ha:PT X a tA) (hb:PW X (.BoolOp .Or (b::rest) pos) tB'):PW X (.BoolOp .Or (a::b::rest) pos) (tOr tA tB'):=by
 intro wh pins s σ H Q I h
 refine isTrue_or (thn (ha pins s σ H _ I h) fun c s1 ⟨H1,I1,q1⟩=> ?_)
 cases c with
 | true=>exact⟨H1,I1,q1⟩
 | false=>exact hb wh pins s1 σ H1 Q I1 q1
theorem q5d (ha:PT X a tA):PT X (.UnaryOp .Not a pos) (tNot tA):=by
 intro pins s σ H Q I h
 exact isTrue_not (ha pins s σ H (fun c H1=>Q (!c) H1) I h)
noncomputable def q9b (ta tb:TE):TE:=fun σ H Q=>ta σ H fun x H1=>∃ c,x=.bl c∧if c=true then tb σ H1 Q else Q (.bl false) H1
noncomputable def tOrV (ta tb:TE):TE:=fun σ H Q=>ta σ H fun x H1=>∃ c,x=.bl c∧if c=true then Q (.bl true) H1 else tb σ H1 Q
noncomputable def q9c (ta:TE):TE:=fun σ H Q=>ta σ H fun x H1=>∃ c,x=.bl c∧Q (.bl (!c)) H1
theorem q5e {op} {t:TE} (h:PE X a t):PE X (.BoolOp op [a] pos) t:=fun pins s σ H Q I hw=>BoolOp_one (h pins s σ H Q I hw)
theorem q5f (ha:PE X a ta) (hb:PE X (.BoolOp .And (b::rest) pos) tb):PE X (.BoolOp .And (a::b::rest) pos) (q9b ta tb):=by
 intro pins s σ H Q I h
 refine BoolOp_and (thn (ha pins s σ H _ I h) fun v s1 ⟨x,H1,I1,r1,q1⟩=> ?_)
 obtain ⟨c,rfl,q1⟩:=q1
 cases r1
 refine wpAny_truthy_bool ?_
 cases c with
 | true=>exact hb pins s1 σ H1 Q I1 q1
 | false=>exact⟨.bl false,H1,I1,rfl,q1⟩
theorem q9d (ha:PE X a ta) (hb:PE X (.BoolOp .Or (b::rest) pos) tb):PE X (.BoolOp .Or (a::b::rest) pos) (tOrV ta tb):=by
 intro pins s σ H Q I h
 refine BoolOp_or (thn (ha pins s σ H _ I h) fun v s1 ⟨x,H1,I1,r1,q1⟩=> ?_)
 obtain ⟨c,rfl,q1⟩:=q1
 cases r1
 refine wpAny_truthy_bool ?_
 cases c with
 | false=>exact hb pins s1 σ H1 Q I1 q1
 | true=>exact⟨.bl true,H1,I1,rfl,q1⟩
theorem q5g (ha:PE X a ta):PE X (.UnaryOp .Not a pos) (q9c ta):=by
 intro pins s σ H Q I h
 refine UnaryOp_ (thn (ha pins s σ H _ I h) fun v s1 ⟨x,H1,I1,r1,q1⟩=> ?_)
 obtain ⟨c,rfl,q1⟩:=q1
 cases r1
 exact not_of (wpAny_truthy_bool ⟨.bl (!c),H1,I1,rfl,q1⟩)
noncomputable def tIf (t:TT) (ta tb:TE):TE:=fun σ H Q=>t σ H fun c H1=>if c=true then ta σ H1 Q else tb σ H1 Q
theorem qyg {c:Expr} (hc:PT X c tA) (ha:PE X a ta) (hb:PE X b tb):PE X (.IfExp c a b pos) (tIf tA ta tb):=by
 intro pins s σ H Q I h
 refine wpAny_IfExp (thn (hc pins s σ H _ I h) fun d s1 ⟨H1,I1,q1⟩=> ?_)
 cases d with
 | true=>exact ha pins s1 σ H1 Q I1 q1
 | false=>exact hb pins s1 σ H1 Q I1 q1
end
noncomputable def SqL (K:PySem.W.Frag) (H:Hp) (a:Addr) (xs:List V):Prop :=
 Rd H a (.lst xs) ∨
   ∃ (o:Obj) (its:Array Value) (n:Nat),K.lookup a=some o∧o.cls=.type "list"∧o.dict=none∧o.data=.seq its n∧its.size≤sizeLine∧Vals xs its.toList
noncomputable def SqT (K:PySem.W.Frag) (H:Hp) (a:Addr) (xs:List V):Prop :=
 Rd H a (.tup xs) ∨
   ∃ (o:Obj) (its:Array Value) (n:Nat),K.lookup a=some o∧o.cls=.type "tuple"∧o.data=.seq its n∧its.size≤sizeLine∧Vals xs its.toList
noncomputable def absV:Value→Option V
 | .none=>some .non
 | .bool b=>some (.bl b)
 | .int i _=>some (.int i)
 | .str x _=>some (.str x)
 | .bytes b _=>some (.byt b)
 | .float b _=>some (.flt b)
 | .ref a=>some (.ref a)
 | .type n=>some (.ty n)
 | _=>none
theorem RelV.abs {x:V} {u:Value} (r:RelV x u):absV u=some x:=by
 cases x with
 | non=>cases r;rfl
 | bl _=>cases r;rfl
 | int _=>obtain ⟨t,rfl⟩:=r;rfl
 | str _=>obtain ⟨t,rfl⟩:=r;rfl
 | byt _=>obtain ⟨t,rfl⟩:=r;rfl
 | flt _=>obtain ⟨t,rfl⟩:=r;rfl
 | ref _=>cases r;rfl
 | ty _=>cases r;rfl
theorem RelV.inj {x y:V} {u:Value} (r:RelV x u) (q:RelV y u):x=y:=Option.some.inj (r.abs.symm.trans q.abs)
theorem Vals.inj:∀ {xs ys:List V} {us:List Value},Vals xs us→Vals ys us→xs=ys
 | _,_,_,.nil,.nil=>rfl
 | _,_,_,.cons r t,.cons r' t'=>by rw[r.inj r',Vals.inj t t']
section
variable {X:Cx} {pins:List (Addr × Obj)} {σ:St} {H:Hp} {s:Shared} {a:Addr} {xs ys:List V}
theorem SqL.of {K:PySem.W.Frag} (h:H a=some (.lst xs)):SqL K H a xs:=.inl (.inl h)
theorem SqT.of {K:PySem.W.Frag} (h:H a=some (.tup xs)):SqT K H a xs:=.inl (.inl h)
theorem Inv.list (I:Inv X pins σ H s) (h:SqL X.K H a xs):∃ its:List Value,Vals xs its∧PlainL s.heap a its.toArray∧xs.length≤sizeLine:=by
 rcases h with h | ⟨o,its,n,hk,hc,hd,hs,hz,r⟩
 · obtain ⟨z,its,n,r,e⟩:=h.ok I.hok
   exact⟨its,r,⟨_,n,e,rfl,rfl,rfl⟩,z⟩
 · refine⟨its.toList,r,⟨o,n,I.kIn a o hk,hc,hd,by simpa using hs⟩,?_⟩
   have e:=r.length
   simp only [Array.length_toList]at e
   omega
theorem Inv.tuple (I:Inv X pins σ H s) (h:SqT X.K H a xs):∃ its:List Value,Vals xs its∧IsTup s.heap a its.toArray∧xs.length≤sizeLine:=by
 rcases h with h | ⟨o,its,n,hk,hc,hs,hz,r⟩
 · obtain ⟨z,its,r,p⟩:=h.ok I.hok
   exact⟨its,r,p,z⟩
 · refine⟨its.toList,r,⟨o,I.kIn a o hk,hc,n,by simpa using hs⟩,?_⟩
   have e:=r.length
   simp only [Array.length_toList]at e
   omega
theorem Inv.list_inj (I:Inv X pins σ H s) (h:SqL X.K H a xs) (h':SqL X.K H a ys):xs=ys:=by
 obtain ⟨its,r,⟨o,n,e,_,_,d⟩,_⟩:=I.list h
 obtain ⟨its',r',⟨o',n',e',_,_,d'⟩,_⟩:=I.list h'
 rw[e]at e';cases e'
 rw[d]at d'
 injection d' with d1 _
 have:its=its':=by simpa using congrArg Array.toList d1
 subst this
 exact r.inj r'
theorem Inv.tuple_inj (I:Inv X pins σ H s) (h:SqT X.K H a xs) (h':SqT X.K H a ys):xs=ys:=by
 obtain ⟨its,r,⟨o,e,_,n,d⟩,_⟩:=I.tuple h
 obtain ⟨its',r',⟨o',e',_,n',d'⟩,_⟩:=I.tuple h'
 rw[e]at e';cases e'
 rw[d]at d'
 injection d' with d1 _
 have:its=its':=by simpa using congrArg Array.toList d1
 subst this
 exact r.inj r'
end
noncomputable abbrev Cx.wish (X:Cx) (E:Value→Shared→Prop):Cx:={ X with xe:=E }
noncomputable abbrev Cx.nox (X:Cx):Cx:=X.wish fun _ _=>False
theorem Cx.Ok.wish {X:Cx} (ok:X.Ok) (E:Value→Shared→Prop):(X.wish E).Ok :=
 ⟨ok.mod,ok.kind,ok.glob,ok.blt,ok.above,ok.inj,ok.has,ok.cab,ok.hd,ok.frames,ok.stk,ok.exf,ok.bs,ok.bsz,ok.noex,ok.exfs,ok.funs,ok.frf⟩
theorem Cx.Ok.unwish {X:Cx} {E:Value→Shared→Prop} (ok:(X.wish E).Ok):X.Ok :=
 ⟨ok.mod,ok.kind,ok.glob,ok.blt,ok.above,ok.inj,ok.has,ok.cab,ok.hd,ok.frames,ok.stk,ok.exf,ok.bs,ok.bsz,ok.noex,ok.exfs,ok.funs,ok.frf⟩
section
variable {X:Cx} {pins:List (Addr × Obj)} {σ:St} {H:Hp} {s:Shared} {E:Value→Shared→Prop}
theorem Inv.wish (I:Inv X pins σ H s) (E:Value→Shared→Prop):Inv (X.wish E) pins σ H s:=⟨I.ok.wish E,I.os,I.bare,I.base,I.loc,I.cell,I.free,I.freeC,I.pin,I.hok,I.len⟩
theorem Inv.unwish (I:Inv (X.wish E) pins σ H s):Inv X pins σ H s:=⟨I.ok.unwish,I.os,I.bare,I.base,I.loc,I.cell,I.free,I.freeC,I.pin,I.hok,I.len⟩
theorem SP.unwish {D:Ends} {f:Flow} {s':Shared} (h:SP (X.wish E) pins D f s'):SP X pins D f s':=by
 cases f with
 | next=>obtain ⟨σ',H',I,q⟩:=h;exact⟨σ',H',I.unwish,q⟩
 | brk=>obtain ⟨σ',H',I,q⟩:=h;exact⟨σ',H',I.unwish,q⟩
 | cont=>obtain ⟨σ',H',I,q⟩:=h;exact⟨σ',H',I.unwish,q⟩
 | ret u=>obtain ⟨v,σ',H',I,r,q⟩:=h;exact⟨v,σ',H',I.unwish,r,q⟩
theorem PSs.nox {st:List Stmt} {t:TS} (h:PSs X.nox st t):PSs X st t:=fun pins s σ H D I hw =>
 wpAny_mono (h pins s σ H D (I.wish _) hw) (fun _ _ q=>q.unwish) fun _ _ z=>False.elim z
end
section
variable {X:Cx} {st:Stmt} {rest:List Stmt} {t u:TS} {e:Expr} {te:TE} {pos:Pos}
noncomputable def q4h:TS:=fun D σ H=>D.nx σ H
noncomputable def tSeq (t u:TS):TS:=fun D σ H=>t { D with nx:=u D } σ H
theorem q1r:PSs X [] q4h:=fun _ _ σ H _ I h=>wpAny_execs_nil ⟨σ,H,I,h⟩
theorem qrf (h1:PS X st t) (h2:PSs X rest u):PSs X (st::rest) (tSeq t u):=by
 intro pins s σ H D I h
 refine wpAny_execs_cons (thn (h1 pins s σ H { D with nx:=u D } I h) fun f s1 q=> ?_)
 cases f with
 | next =>
   obtain ⟨σ',H',I',q⟩:=q
   exact h2 pins s1 σ' H' D I' q
 | ret v=>exact q
 | brk=>exact q
 | cont=>exact q
theorem q1s (h1:PS X st t):PSs X [st] t:=by
 intro pins s σ H D I h
 refine wpAny_execs_cons (thn (h1 pins s σ H D I h) fun f s1 q=> ?_)
 cases f with
 | next=>exact wpAny_execs_nil q
 | ret v=>exact q
 | brk=>exact q
 | cont=>exact q
noncomputable def q5h:TS:=fun D σ H=>D.bk σ H
noncomputable def q9e:TS:=fun D σ H=>D.ct σ H
theorem q1t:PS X (.Pass pos) q4h:=fun _ _ σ H _ I h=>wpAny_Pass ⟨σ,H,I,h⟩
theorem qyh:PS X (.Break pos) q5h:=fun _ _ σ H _ I h=>wpAny_Break ⟨σ,H,I,h⟩
theorem qrg:PS X (.Continue pos) q9e:=fun _ _ σ H _ I h=>wpAny_Continue ⟨σ,H,I,h⟩
theorem Inv.quiet {pins:List (Addr × Obj)} {σ:St} {H:Hp} {s:Shared} (I:Inv X pins σ H s):interactive X.env=false:=by simp [interactive,I.ok.kind]
noncomputable def q9f (te:TE):TS:=fun D σ H=>te σ H fun _ H1=>D.nx σ H1
theorem q1u (he:PE X e te) (hs:swapsWith e none pos.line X.env=pure false:=by rfl):PS X (.Expr e pos) (q9f te):=by
 intro pins s σ H D I h
 exact wpAny_Expr_any (thn (he pins s σ H _ I h) fun v s1 ⟨x,H1,I1,r1,q1⟩=>⟨σ,H1,I1,q1⟩) I.quiet hs
noncomputable def tRet (te:TE):TS:=fun D σ H=>te σ H D.rt
theorem qyi (he:PE X e te):PS X (.Return (some e) pos) (tRet te):=by
 intro pins s σ H D I h
 exact wpAny_Return_some (thn (he pins s σ H _ I h) fun v s1 ⟨x,H1,I1,r1,q1⟩=>⟨x,σ,H1,I1,r1,q1⟩)
noncomputable def q9g:TS:=fun D _ H=>D.rt .non H
theorem q1v:PS X (.Return none pos) q9g:=fun _ _ σ H _ I h=>wpAny_Return_none ⟨.non,σ,H,I,rfl,h⟩
noncomputable def tIfS (c:TT) (t u:TS):TS:=fun D σ H=>c σ H fun b H1=>if b=true then t D σ H1 else u D σ H1
theorem q9h {c:Expr} {a b:List Stmt} {tc:TT} (hc:PT X c tc) (ha:PSs X a t) (hb:PSs X b u):PS X (.If c a b pos) (tIfS tc t u):=by
 intro pins s σ H D I h
 refine wpAny_If (thn (hc pins s σ H _ I h) fun d s1 ⟨H1,I1,q1⟩=> ?_)
 cases d with
 | true=>exact ha pins s1 σ H1 D I1 q1
 | false=>exact hb pins s1 σ H1 D I1 q1
end
noncomputable abbrev TG:=V→St→Hp→(St→Hp→Prop)→Prop
noncomputable abbrev TGs:=List V→St→Hp→(St→Hp→Prop)→Prop
noncomputable def PG (X:Cx) (target:Expr) (t:TG):Prop :=
 ∀ (pins:List (Addr × Obj)) (s:Shared) (σ:St) (H:Hp) (v:V) (u:Value) (Q:St→Hp→Prop),Inv X pins σ H s→RelV v u→t v σ H Q →
   wpAny (model X.prog X.w) X.A (assign target X.env u) (fun _ s'=>∃ σ' H',Inv X pins σ' H' s'∧Q σ' H') X.xe s
noncomputable def PGs (X:Cx) (ts:List Expr) (t:TGs):Prop :=
 ∀ (pins:List (Addr × Obj)) (s:Shared) (σ:St) (H:Hp) (vs:List V) (us:List Value) (Q:St→Hp→Prop),Inv X pins σ H s→Vals vs us→t vs σ H Q →
   wpAny (model X.prog X.w) X.A (assignInOrder ((assignEach ts X.env).map (·.2)) us) (fun _ s'=>∃ σ' H',Inv X pins σ' H' s'∧Q σ' H') X.xe s
noncomputable abbrev qt8:=V→V→V→Hp→(Hp→Prop)→Prop
noncomputable def qm2 (X:Cx) (t:qt8):Prop :=
 ∀ (pins:List (Addr × Obj)) (s:Shared) (σ:St) (H:Hp) (o i v:V) (ov iv u:Value) (Q:Hp→Prop),Inv X pins σ H s→RelV o ov→RelV i iv→RelV v u→t o i v H Q →
   wpAny (model X.prog X.w) X.A (setItem ov iv u) (fun _ s'=>∃ H',Inv X pins σ H' s'∧Q H') X.xe s
noncomputable abbrev TIp:=V→V→Hp→VK→Prop
noncomputable def PIp (X:Cx) (op:Operator) (t:TIp):Prop :=
 ∀ (pins:List (Addr × Obj)) (s:Shared) (σ:St) (H:Hp) (x y:V) (v u:Value) (Q:VK),Inv X pins σ H s→RelV x v→RelV y u→t x y H Q →
   wpAny (model X.prog X.w) X.A (inplaceOp op v u) (EP X pins σ Q) X.xe s
section
variable {X:Cx} {pos:Pos}
noncomputable def qvh (i:Nat):TG:=fun v σ H Q=>Q (σ.set i (some v)) H
theorem q1w {i:Nat} {x:Str} (hN:X.N.Nodup) (hi:X.N[i]? =some x) (hx:Loc X.env.scope x) (hf:X.fn x=true∨X.env.scope.names.lookup x=some .local:=by first | exact .inl rfl | exact .inr rfl | assumption):PG X (.Name x pos) (qvh i):=by
 intro pins s σ H v u Q I r h
 exact wpAny_assign_Name (qe3 I hN hi hx r (fun s' I'=>⟨_,H,I',h⟩) hf)
noncomputable def gNil:TGs:=fun vs σ H Q=>vs=[]∧Q σ H
noncomputable def q9i (t:TG) (u:TGs):TGs:=fun vs σ H Q=>∃ v r,vs=v::r∧t v σ H fun σ' H'=>u r σ' H' Q
theorem q1x:PGs X [] gNil:=by
 intro pins s σ H vs us Q I r h
 obtain ⟨e,h⟩:=h
 subst e
 cases r
 exact assignInOrder_nil ⟨σ,H,I,h⟩
theorem qyj {e:Expr} {es:List Expr} {t:TG} {u:TGs} (h1:PG X e t) (h2:PGs X es u)
   (hs:(assignEach (e::es) X.env).map (·.2)=assign e X.env::(assignEach es X.env).map (·.2):=by rfl):PGs X (e::es) (q9i t u):=by
 intro pins s σ H vs us Q I r h
 obtain ⟨v,vr,e1,h⟩:=h
 subst e1
 cases r with
 | cons r rr =>
   rw[hs]
   refine assignInOrder_cons (thn (h1 pins s σ H _ _ _ I r h) fun _ s1 ⟨σ1,H1,I1,q1⟩=> ?_)
   exact h2 pins s1 σ1 H1 _ _ Q I1 rr q1
noncomputable def gTup (K:PySem.W.Frag) (n:Nat) (t:TGs):TG:=fun v σ H Q=>∃ a xs,v=.ref a∧SqT K H a xs∧xs.length=n∧t xs σ H Q
theorem q5i {es:List Expr} {k:Nat} {t:TGs} {n:Nat} (hc:X.calm=true) (h:PGs X es t)
   (hn:(assignEach es X.env).length=n:=by rfl) (hst:(assignEach es X.env).findIdx? (·.1)=none:=by rfl):PG X (.Tuple es k pos) (gTup X.K n t):=by
 intro pins s σ H v u Q I r hw
 obtain ⟨a,xs,e1,hq,hl,hw⟩:=hw
 subst e1
 cases r
 obtain ⟨its,rv,ht,hz⟩:=I.tuple hq
 refine assign_Tuple_tuple (I.ok.hd hc) ht (by simp [hn,← hl,rv.length]) hst fun h' hx=> ?_
 have I1:Inv X pins σ H { s with heap:=h' }:=I.kept (t':=s.toks) fun b o e=>hx b o (Nat.ne_of_lt (Heap.lt_size e)) e
 exact h pins _ σ H xs _ Q I1 (by simpa using rv) hw
noncomputable def gSub (to ti:TE) (t:qt8):TG:=fun v σ H Q=>to σ H fun o H1=>ti σ H1 fun i H2=>t o i v H2 fun H3=>Q σ H3
theorem q5j {o i:Expr} {to ti:TE} {t:qt8} (ho:PE X o to) (hi:PE X i ti) (hs:qm2 X t)
   (ha:∀ v,assign (.Subscript o i pos) X.env v=(do
     let ov ← holding [v] (eval o X.env)
     let iv ← holding [v,ov] (eval i X.env)
     standAt pos
     holding [v,ov,iv] (setItem ov iv v)
     release [v,ov,iv] []):=by intro _;rfl):PG X (.Subscript o i pos) (gSub to ti t):=by
 intro pins s σ H v u Q I r h
 rw[ha]
 refine wpAny_bind (wpAny_holding (thn (ho pins s σ H _ I h) fun ov s1 ⟨x,H1,I1,r1,q1⟩=> ?_))
 refine wpAny_bind (wpAny_holding (thn (hi pins s1 σ H1 _ I1 q1) fun iv s2 ⟨y,H2,I2,r2,q2⟩=> ?_))
 refine wpAny_bind (wpAny_standAt (wpAny_bind (wpAny_holding (thn (hs pins s2 σ H2 x y v ov iv u _ I2 r1 r2 r q2) fun _ s3 ⟨H3,I3,q3⟩=> ?_))))
 exact wpAny_release ⟨σ,H3,I3,q3⟩
noncomputable def q1y (te:TE) (g:TG):TS:=fun D σ H=>te σ H fun x H1=>g x σ H1 D.nx
theorem q5k {tg e:Expr} {te:TE} {g:TG} (he:PE X e te) (hg:PG X tg g) (hs:swapsWithSole [tg] e pos.line X.env=pure false:=by rfl) (hw:swappedStores [tg] e X.env=pure none:=by rfl)
   (h1:(assignEach [tg] X.env).map (·.2)=[assign tg X.env]:=by rfl):PS X (.Assign [tg] e pos) (q1y te g):=by
 intro pins s σ H D I h
 refine wpAny_Assign_stores (thn (he pins s σ H _ I h) fun v s1 ⟨x,H1,I1,r1,q1⟩=> ?_) hs hw
 rw[h1]
 exact thn (hg pins s1 σ H1 x v _ I1 r1 q1) fun _ s2 q=>q
theorem qyk {i:Nat} {x:Str} {e:Expr} {te:TE} {pos':Pos} (hN:X.N.Nodup) (hi:X.N[i]? =some x) (hx:Loc X.env.scope x) (he:PE X e te) (hs:swapsWith e (some (.Name x pos')) pos.line X.env=pure false:=by rfl) (hf:X.fn x=true∨X.env.scope.names.lookup x=some .local:=by first | exact .inl rfl | exact .inr rfl | assumption) :
   PS X (.Assign [.Name x pos'] e pos) (q1y te (qvh i)):=by
 intro pins s σ H D I h
 refine wpAny_Assign_Name (thn (he pins s σ H _ I h) fun v s1 ⟨y,H1,I1,r1,q1⟩=> ?_) hs
 exact qe3 I1 hN hi hx r1 (fun s2 I2=>⟨_,H1,I2,q1⟩) hf
noncomputable def tPar (i j:Nat) (ta:TA):TS:=fun D σ H=>ta σ H fun vs H1=>∃ v w,vs=[v,w]∧D.nx ((σ.set i (some v)).set j (some w)) H1
theorem q5l {i j:Nat} {x y:Str} {a b:Expr} {ta:TA} {px py pt:Pos} {kt k2 pt2} (hc:X.calm=true) (hN:X.N.Nodup) (hi:X.N[i]? =some x) (hj:X.N[j]? =some y) (hij:i ≠ j)
   (hx:X.env.scope.names.lookup x=some .local) (hy:X.env.scope.names.lookup y=some .local) (ha:PA X [a,b] ta)
   (hw:swappedStores [.Tuple [.Name x px,.Name y py] kt pt] (.Tuple [a,b] k2 pt2) X.env=pure (some [x,y]))
   (hs:swapsWithSole [.Tuple [.Name x px,.Name y py] kt pt] (.Tuple [a,b] k2 pt2) pos.line X.env=pure false:=by rfl) :
   PS X (.Assign [.Tuple [.Name x px,.Name y py] kt pt] (.Tuple [a,b] k2 pt2) pos) (tPar i j ta):=by
 intro pins s σ H D I h
 rw[exec_Assign_arm]
 refine wpAny_bind (wpAny_standAt ?_)
 rw[hs]
 refine wpAny_bind (wpAny_pure ?_)
 rw[if_neg (by decide)]
 refine wpAny_bind (Tuple_ (thn (ha _ pins s σ H _ I h) fun us s1 ⟨vs,H1,I1,r1,q1⟩=> ?_))
 obtain ⟨v,w,e1,q1⟩:=q1
 subst e1
 obtain ⟨u1,u2,rfl,rv,rw'⟩:∃ u1 u2,us=[u1,u2]∧RelV v u1∧RelV w u2:=by
   cases r1 with
   | cons p q =>
     cases q with
     | cons p' q' =>
       cases q'
       exact⟨_,_,rfl,p,p'⟩
 refine wpAny_newObj_type ?_ (by show 2≤sizeLine;decide)
 have I2:Inv X pins σ H1 { s1 with heap:=s1.heap.push { cls:=.type "tuple",data:=.seq [u1,u2].toArray } }:=I1.kept (t':=s1.toks) fun b o e=>Heap.get?_push_of_some _ e
 rw[hw]
 refine wpAny_bind (wpAny_pure ?_)
 show wpAny (model X.prog X.w) X.A (do rule "assign.swapped-stores";let items ← unpackItems (.ref s1.heap.objs.size) 2 none;assignInOrder [fun v=>bindName X.env y v,fun v=>bindName X.env x v] items.reverse;pure Flow.next) _ _ _
 refine wpAny_bind (wpAny_rule (wpAny_bind (unpackItems_tuple (items:= #[u1,u2]) (I.ok.hd hc) (IsTup.new s1.heap _) fun h' hx'=> ?_)))
 have I3:=I2.kept (h':=h') (t':=s1.toks) fun b o e=>hx' b o (Nat.ne_of_lt (Heap.lt_size e)) e
 show wpAny _ _ (assignInOrder [fun v=>bindName X.env y v,fun v=>bindName X.env x v] [u2,u1] >>= fun _=>pure Flow.next) _ _ _
 refine wpAny_bind (assignInOrder_cons (wpAny_bindName (qe3 I3 hN hj (.inl hy) rw' (fun s2 I4=> ?_) (.inr hy))))
 refine assignInOrder_cons (wpAny_bindName (qe3 I4 hN hi (.inl hx) rv (fun s3 I5=>assignInOrder_nil (wpAny_pure ?_)) (.inr hx)))
 rw[List.set_comm _ _ (Ne.symm hij)]at I5
 exact⟨_,H1,I5,q1⟩
noncomputable def tAug (i:Nat) (te:TE) (ti:TIp):TS:=fun D σ H=>∃ x,σ[i]? =some (some x)∧te σ H fun y H1=>ti x y H1 fun z H2=>D.nx (σ.set i (some z)) H2
theorem q5m {i:Nat} {x:Str} {e:Expr} {te:TE} {op:Operator} {ti:TIp} {pos':Pos} (hN:X.N.Nodup) (hi:X.N[i]? =some x) (hx:Loc X.env.scope x) (he:PE X e te) (ho:PIp X op ti) (hf:X.fn x=true∨X.env.scope.names.lookup x=some .local:=by first | exact .inl rfl | exact .inr rfl | assumption) :
   PS X (.AugAssign (.Name x pos') op e pos) (tAug i te ti):=by
 intro pins s σ H D I h
 obtain ⟨v,e1,h⟩:=h
 obtain ⟨m,hn,hl⟩:=I.loc
 have vis:Vis X.env.scope x:=by rcases hx with k | k;exact .inl k;exact .inr (.inl k)
 obtain ⟨u,r,l⟩:=hl i x v hi e1 vis
 refine wpAny_AugAssign_Name ?_
 have go:wpAny (model X.prog X.w) X.A (eval e X.env) (fun w s₂=>wpAny (model X.prog X.w) X.A (inplaceOp op u w) (fun r s₃=>wpAny (model X.prog X.w) X.A (storeName X.env x r) (fun _=>SP X pins D .next) X.xe s₃) X.xe s₂) X.xe s:=by
   refine thn (he pins s σ H _ I h) fun w s1 ⟨y,H1,I1,r1,q1⟩=> ?_
   refine thn (ho pins s1 σ H1 v y u w _ I1 r r1 q1) fun z s2 ⟨zv,H2,I2,r2,q2⟩=> ?_
   exact qe3 I2 hN hi hx r2 (fun s3 I3=>⟨_,H2,I3,q2⟩) hf
 rcases l with ⟨hk,hm⟩ | ⟨hk,c,hc,hcell⟩
 · exact wpAny_loadName_local I.ok.kind hk hn hm go
 · rcases hk with hk | hk
   · exact wpAny_loadName_cell I.ok.kind hk hc hcell go
   · rcases hx with k | k
     · have:X.env.scope.names.lookup x=some .free:=hk
       rw[k]at this;cases this
     · have:X.env.scope.names.lookup x=some .free:=hk
       rw[k]at this;cases this
noncomputable def q9j (to ti te:TE) (tget:V→V→Hp→VK→Prop) (tip:TIp) (tset:qt8):TS:=fun D σ H=>to σ H fun o H1=>ti σ H1 fun i H2=>tget o i H2 fun x H3=>te σ H3 fun y H4=>tip x y H4 fun z H5=>tset o i z H5 fun H6=>D.nx σ H6
noncomputable def qrh (X:Cx) (t:V→V→Hp→VK→Prop):Prop :=
 ∀ (pins:List (Addr × Obj)) (s:Shared) (σ:St) (H:Hp) (o i:V) (ov iv:Value) (Q:VK),Inv X pins σ H s→RelV o ov→RelV i iv→t o i H Q →
   wpAny (model X.prog X.w) X.A (getItem ov iv) (EP X pins σ Q) X.xe s
theorem q1z {o i e:Expr} {to ti te:TE} {tget:V→V→Hp→VK→Prop} {tip:TIp} {tset:qt8} {op:Operator} {tpos:Pos} (ho:PE X o to) (hi:PE X i ti) (hg:qrh X tget) (he:PE X e te) (hp:PIp X op tip) (hs:qm2 X tset)
   (ha:∀ ov iv new,augStore i ov iv new=(do holding [new,ov,iv] (setItem ov iv new);release [new,ov,iv] [];pure .next):=by intros;rfl):PS X (.AugAssign (.Subscript o i tpos) op e pos) (q9j to ti te tget tip tset):=by
 intro pins s σ H D I h
 refine wpAny_AugAssign_SubscriptAny (thn (ho pins s σ H _ I h) fun ov s1 ⟨x1,H1,I1,r1,q1⟩=> ?_) ha
 refine thn (hi pins s1 σ H1 _ I1 q1) fun iv s2 ⟨x2,H2,I2,r2,q2⟩=> ?_
 refine thn (hg pins s2 σ H2 x1 x2 ov iv _ I2 r1 r2 q2) fun old s3 ⟨x3,H3,I3,r3,q3⟩=> ?_
 refine thn (he pins s3 σ H3 _ I3 q3) fun v s4 ⟨x4,H4,I4,r4,q4⟩=> ?_
 refine thn (hp pins s4 σ H4 x3 x4 old v _ I4 r3 r4 q4) fun new s5 ⟨x5,H5,I5,r5,q5⟩=> ?_
 exact thn (hs pins s5 σ H5 x1 x2 x5 ov iv new _ I5 r1 r2 r5 q5) fun _ s6 ⟨H6,I6,q6⟩=>⟨σ,H6,I6,q6⟩
noncomputable def ipI (f:Int→Int→Int):TIp:=fun x y H Q=>∃ i j,x=.int i∧y=.int j∧Q (.int (f i j)) H
theorem q5n:PIp X .Add (ipI fun i j=>i+j):=by
 intro pins s σ H x y v u Q I r1 r2 h
 obtain ⟨i,j,e1,e2,q⟩:=h
 subst e1;subst e2
 obtain ⟨t,rfl⟩:=r1
 obtain ⟨t',rfl⟩:=r2
 exact iadd_int ⟨.int _,H,I.tok _,⟨_,rfl⟩,q⟩
theorem q5o:PIp X .Sub (ipI fun i j=>i - j):=by
 intro pins s σ H x y v u Q I r1 r2 h
 obtain ⟨i,j,e1,e2,q⟩:=h
 subst e1;subst e2
 obtain ⟨t,rfl⟩:=r1
 obtain ⟨t',rfl⟩:=r2
 exact isub_int ⟨.int _,H,I.tok _,⟨_,rfl⟩,q⟩
end
section
variable {X:Cx} {pos:Pos}
noncomputable def q5p (c:TT) (tb:TS):TS:=fun D σ H=>∃ W:Nat→St→Hp→Prop,(∃ m,W m σ H)∧∀ m σ H,W m σ H →
 c σ H fun b H1=>if b=true then ∃ N:St→Hp→Prop,(∀ σ' H',N σ' H'→∃ m',m' < m∧W m' σ' H')∧tb { D with nx:=N,ct:=N,bk:=D.nx } σ H1 else D.nx σ H1
theorem qyl {c:Expr} {body:List Stmt} {tc:TT} {tb:TS} (hp:PassesOwn (model X.prog X.w) X.A X.env X.xe) (hc:PT X c tc) (hb:PSs X body tb):PS X (.While c body [] pos) (q5p tc tb):=by
 intro pins s σ H D I h
 obtain ⟨W,⟨m0,w0⟩,turn⟩:=h
 refine wpAny_While (codeAny_whileLoop (fun n s'=>∃ σ' H',Inv X pins σ' H' s'∧W n σ' H') ?_ m0 ⟨σ,H,I,w0⟩)
 rintro n s1 ⟨σ1,H1,I1,w1⟩
 refine wpAny_passesOwn hp (thn (hc pins s1 σ1 H1 _ I1 (turn n σ1 H1 w1)) fun b s2 ⟨H2,I2,q2⟩=> ?_)
 cases b with
 | true =>
   obtain ⟨N,hN,q2⟩:=q2
   rw[if_pos rfl]
   refine wpAny_passesOwn hp (thn (hb pins s2 σ1 H2 _ I2 q2) fun f s3 q3=> ?_)
   cases f with
   | next =>
     obtain ⟨σ3,H3,I3,n3⟩:=q3
     obtain ⟨m',hm,w3⟩:=hN σ3 H3 n3
     exact⟨m',hm,σ3,H3,I3,w3⟩
   | cont =>
     obtain ⟨σ3,H3,I3,n3⟩:=q3
     obtain ⟨m',hm,w3⟩:=hN σ3 H3 n3
     exact⟨m',hm,σ3,H3,I3,w3⟩
   | brk=>exact q3
   | ret v=>exact q3
 | false =>
   rw[if_neg Bool.false_ne_true]
   exact wpAny_execs_nil ⟨σ1,H2,I2,q2⟩
end
set_option genInjectivity false in
structure It where
 go:Nat→Hp→Prop
 yld:Nat→Hp→V→Hp→Prop
 stop:Nat→Hp→Prop
noncomputable def qed (X:Cx) (pins:List (Addr × Obj)) (H:Hp) (b:Addr):Prop :=
 H b=none∧b ≠ X.env.locals∧b ∉ X.fs∧(b ∈ X.ex∨X.s₀.heap.objs.size≤b)∧(∀ x c,X.env.cells.lookup x=some c→c ≠ b)∧∀ p ∈ X.pn++pins,p.1 ≠ b
theorem Inv.fpOk {X:Cx} {pins:List (Addr × Obj)} {σ:St} {H H':Hp} {s:Shared} {b:Addr} (I:Inv X pins σ H s) (hb:s.heap.objs.size≤b) (hn:H' b=none):qed X pins H' b:=by
 refine⟨hn,Nat.ne_of_gt (Nat.lt_of_lt_of_le I.lt hb),I.nofs hb,.inr (Nat.le_trans I.sz hb),fun x c e z=> ?_,fun p hp z=> ?_⟩
 · obtain ⟨v,q⟩:=I.cell x c e
   exact absurd (Nat.lt_of_lt_of_le q.lt (by rw[z];exact hb)) (Nat.lt_irrefl _)
 · exact absurd (Nat.lt_of_lt_of_le (Heap.lt_size (I.pin p hp).1) (by rw[z];exact hb)) (Nat.lt_irrefl _)
structure Turn (P:Program) (w:World) (K:PySem.W.Frag) (tg:Expr) (J:It) (fp:List Addr) (it:Addr) (tn:Nat→Heap→Prop):Prop where
 mem:it ∈ fp
 obj:∀ i h,tn i h→∀ b ∈ fp,∃ o,h.get? b=some o∧∀ v,o.data ≠ .cell v
 keep:∀ i h h',tn i h→(∀ b ∈ fp,∀ o,h.get? b=some o→h'.get? b=some o)→tn i h'
 item:∀ (X:Cx),X.prog=P→X.w=w→X.K=K→X.calm=true→∀ (i:Nat) (pins:List (Addr × Obj)) (s:Shared) (σ:St) (H:Hp) (E:Value→Shared→Prop),Inv X pins σ H s→(∀ b ∈ fp,qed X pins H b)→tn i s.heap→J.go i H →
   wpAny (model P w) X.A (pyNext (.ref it)) (fun r s1=>∃ u,r=some u ∧
     wpAny (model P w) X.A (letOwnedTupleGo tg (.ref it) u) (fun _ s2=>∃ x H',Inv X pins σ H' s2∧RelV x u∧J.yld i H x H'∧tn (i+1) s2.heap∧∀ b ∈ fp,H' b=none) E s1) E s
 done:∀ (X:Cx),X.prog=P→X.w=w→X.K=K→X.calm=true→∀ (i:Nat) (pins:List (Addr × Obj)) (s:Shared) (σ:St) (H:Hp) (E:Value→Shared→Prop),Inv X pins σ H s→(∀ b ∈ fp,qed X pins H b)→tn i s.heap→J.stop i H →
   wpAny (model P w) X.A (pyNext (.ref it)) (fun r s1=>r=none∧Inv X pins σ H s1) E s
 self:∀ (A:Around) (i:Nat) (s:Shared) (Q:Value→Shared→Prop) (E:Value→Shared→Prop),tn i s.heap→Q (.ref it) s→wpAny (model P w) A (pyIter (.ref it)) Q E s
noncomputable abbrev TI:=St→Hp→(It→Hp→Prop)→Prop
noncomputable def PIE (X:Cx) (pins:List (Addr × Obj)) (σ:St) (tg:Expr) (R:It→Hp→Prop) (itv:Value) (s2:Shared):Prop :=
 ∃ (it:Addr) (fp:List Addr) (tn:Nat→Heap→Prop) (J:It) (H':Hp),itv=.ref it∧Inv X pins σ H' s2∧Turn X.prog X.w X.K tg J fp it tn∧tn 0 s2.heap∧(∀ b ∈ fp,qed X pins H' b)∧R J H'
noncomputable def PI (X:Cx) (tg iter:Expr) (wi:TI):Prop :=
 ∀ (pins:List (Addr × Obj)) (s:Shared) (σ:St) (H:Hp) (R:It→Hp→Prop),Inv X pins σ H s→wi σ H R →
   wpAny (model X.prog X.w) X.A (eval iter X.env) (fun v s1=>wpAny (model X.prog X.w) X.A (pyIter v) (PIE X pins σ tg R) X.xe s1) X.xe s
theorem qvi {M:Model} {A:Around} {E:Value→Shared→Prop} {s:Shared} {tg:Expr} {it:Addr} {u:Value} {o:Obj} {n:String} {vs:Array Value} {Q:Unit→Shared→Prop} (ho:s.heap.get? it=some o) (hc:o.cls=.type n) (hd:o.data=.fields vs)
   (hn:["enumerate","zip","dict_itemiterator","dict_reverseitemiterator","odict_iterator","itertools.zip_longest","itertools.pairwise"].contains n=false) (hQ:Q () s):wpAny M A (letOwnedTupleGo tg (.ref it) u) Q E s:=by
 unfold letOwnedTupleGo
 cases tg <;> first
   | exact wpAny_pure hQ
   | (cases u <;> first
       | exact wpAny_pure hQ
       | (refine wpAny_bind (wpAny_load ho ?_)
          rw[hc,hd]
          show wpAny M A (if (["enumerate","zip","dict_itemiterator","dict_reverseitemiterator","odict_iterator","itertools.zip_longest","itertools.pairwise"].contains n && vs[0]? ==some (rawInt _))=true then _ else _) Q E s
          rw[if_neg (by intro h;rw[hn,Bool.false_and]at h;cases h)]
          exact wpAny_pure hQ))
noncomputable def Itl (K:PySem.W.Frag) (a:Addr):It :=
 ⟨fun i H=>∃ xs x,SqL K H a xs∧xs[i]? =some x,fun i H x H'=>H'=H∧∀ xs,SqL K H a xs→xs[i]? =some x,fun i H=>∃ xs,SqL K H a xs∧xs.length≤i⟩
noncomputable def Itt (K:PySem.W.Frag) (a:Addr):It :=
 ⟨fun i H=>∃ xs x,SqT K H a xs∧xs[i]? =some x,fun i H x H'=>H'=H∧∀ xs,SqT K H a xs→xs[i]? =some x,fun i H=>∃ xs,SqT K H a xs∧xs.length≤i⟩
noncomputable def Itr (lo:Int) (n:Nat):It:=⟨fun i _=>i < n,fun i H x H'=>H'=H∧x=.int (lo+i),fun i _=>n≤i⟩
theorem qwz {P:Program} {w:World} {K:PySem.W.Frag} {tg:Expr} (a it:Addr):Turn P w K tg (Itl K a) [it] it (fun i h=>h.IsListIter it a i) where
 mem:=by simp
 obj:=fun i h st b hb=>by
   have e:b=it:=by simpa using hb
   subst e
   obtain ⟨o,e,c,d⟩:=st
   exact⟨o,e,fun v z=>by rw[d]at z;cases z⟩
 keep:=fun i h h' st k=>st.at fun o e=>k it (by simp) o e
 item:=by
   intro X hP hw hK hc i pins s σ H E I hf st hg
   subst hP hw hK
   obtain ⟨xs,x,hq,hx⟩:=hg
   obtain ⟨its,rv,p,hz⟩:=I.list hq
   obtain ⟨u,hu,ru⟩:=rv.get hx
   obtain ⟨f0,f1,f2,f3,f4,f5⟩:=hf it (by simp)
   refine wpAny_pyNext_list_item st p.isList (x:=u) (by simpa using hu) fun h' st' sb=> ?_
   have I1:Inv X pins σ H { s with heap:=h' }:=I.turned (t':=s.toks) (fun b o hb e=>(sb.2 b hb).trans e) f0 f1 f3 f4 f5
   obtain ⟨o,e,c,d⟩:=id st'
   exact⟨u,rfl,qvi (s:={ s with heap:=h' }) e c d (by decide) ⟨x,H,I1,ru,⟨rfl,fun ys hy=>by rw[I.list_inj hy hq];exact hx⟩,st',fun b hb=>(hf b hb).1⟩⟩
 done:=by
   intro X hP hw hK hc i pins s σ H E I hf st hg
   subst hP hw hK
   obtain ⟨xs,hq,hx⟩:=hg
   obtain ⟨its,rv,p,hz⟩:=I.list hq
   obtain ⟨f0,f1,f2,f3,f4,f5⟩:=hf it (by simp)
   have hl:=rv.length
   exact wpAny_pyNext_list_end (I.ok.hd hc) st p.isList (by simp;omega) fun h' eb=>⟨rfl,I.turned (t':=s.toks) (fun b o hb e=>eb b o hb e) f0 f1 f3 f4 f5⟩
 self:=fun _ _ _ _ _ st h=>wpAny_pyIter_listiter st h
theorem qt9 {P:Program} {w:World} {K:PySem.W.Frag} {tg:Expr} (a it:Addr):Turn P w K tg (Itt K a) [it] it (fun i h=>h.IsTupleIter it a i) where
 mem:=by simp
 obj:=fun i h st b hb=>by
   have e:b=it:=by simpa using hb
   subst e
   obtain ⟨o,e,c,d⟩:=st
   exact⟨o,e,fun v z=>by rw[d]at z;cases z⟩
 keep:=fun i h h' st k=>st.at fun o e=>k it (by simp) o e
 item:=by
   intro X hP hw hK hc i pins s σ H E I hf st hg
   subst hP hw hK
   obtain ⟨xs,x,hq,hx⟩:=hg
   obtain ⟨its,rv,p,hz⟩:=I.tuple hq
   obtain ⟨u,hu,ru⟩:=rv.get hx
   obtain ⟨f0,f1,f2,f3,f4,f5⟩:=hf it (by simp)
   refine wpAny_pyNext_tuple_item st (show s.heap.IsTuple a its.toArray from p) (x:=u) (by simpa using hu) fun h' st' sb=> ?_
   have I1:Inv X pins σ H { s with heap:=h' }:=I.turned (t':=s.toks) (fun b o hb e=>(sb.2 b hb).trans e) f0 f1 f3 f4 f5
   obtain ⟨o,e,c,d⟩:=id st'
   exact⟨u,rfl,qvi (s:={ s with heap:=h' }) e c d (by decide) ⟨x,H,I1,ru,⟨rfl,fun ys hy=>by rw[I.tuple_inj hy hq];exact hx⟩,st',fun b hb=>(hf b hb).1⟩⟩
 done:=by
   intro X hP hw hK hc i pins s σ H E I hf st hg
   subst hP hw hK
   obtain ⟨xs,hq,hx⟩:=hg
   obtain ⟨its,rv,p,hz⟩:=I.tuple hq
   obtain ⟨f0,f1,f2,f3,f4,f5⟩:=hf it (by simp)
   have hl:=rv.length
   exact wpAny_pyNext_tuple_end (I.ok.hd hc) st (show s.heap.IsTuple a its.toArray from p) (by simp;omega) fun h' eb=>⟨rfl,I.turned (t':=s.toks) (fun b o hb e=>eb b o hb e) f0 f1 f3 f4 f5⟩
 self:=fun _ _ _ _ _ st h=>wpAny_pyIter_tupleiter st h
theorem qua {P:Program} {w:World} {K:PySem.W.Frag} {tg:Expr} (it:Addr) (lo:Int) (n:Nat):Turn P w K tg (Itr lo n) [it] it (fun i h=>IsRangeIter h it (lo+(i:Nat) * 1) ((n:Int) - (i:Nat)) 1) where
 mem:=by simp
 obj :=fun i h st b hb=>by
   have e:b=it:=by simpa using hb
   subst e
   exact⟨_,st,fun v z=>by
     have z':Data.fields _=Data.cell v:=z
     cases z'⟩
 keep:=fun i h h' st k=>k it (by simp) _ st
 item:=by
   intro X hP hw hK hc i pins s σ H E I hf st hg
   subst hP hw hK
   obtain ⟨f0,f1,f2,f3,f4,f5⟩:=hf it (by simp)
   have W:=Walks.range (prog:=X.prog) (w:=X.w) (I.ok.hd hc) it lo 1 n
   refine W.item i s _ _ hg st fun v h' tk hv st' kk=> ?_
   obtain ⟨t,rfl⟩:=hv
   have I1:Inv X pins σ H { s with heap:=h',toks:=tk }:=I.turned (fun b o hb e=>kk b o (by simpa using hb) e) f0 f1 f3 f4 f5
   refine⟨_,rfl,qvi (s:={ s with heap:=h',toks:=tk }) (n:="range_iterator") st' rfl rfl (by decide) ⟨.int (lo+i),H,I1,⟨t,?_⟩,⟨rfl,rfl⟩,st',fun b hb=>(hf b hb).1⟩⟩
   rw[Int.mul_one]
 done:=by
   intro X hP hw hK hc i pins s σ H E I hf st hg
   subst hP hw hK
   obtain ⟨f0,f1,f2,f3,f4,f5⟩:=hf it (by simp)
   exact wpAny_pyNext_range_end (I.ok.hd hc) st (by have:n≤i:=hg;omega) fun h' eb=>⟨rfl,I.turned (t':=s.toks) (fun b o hb e=>eb b o hb e) f0 f1 f3 f4 f5⟩
 self:=fun _ _ _ _ _ st h=>wpAny_pyIter_rangeiter st h
section
variable {X:Cx} {tg:Expr}
noncomputable def q9k (K:PySem.W.Frag) (tl:TE):TI:=fun σ H R=>tl σ H fun x H1=>∃ a,x=.ref a∧(∃ xs,SqL K H1 a xs)∧R (Itl K a) H1
noncomputable def iTup (K:PySem.W.Frag) (tl:TE):TI:=fun σ H R=>tl σ H fun x H1=>∃ a,x=.ref a∧(∃ xs,SqT K H1 a xs)∧R (Itt K a) H1
theorem q10 {l:Expr} {tl:TE} (hl:PE X l tl):PI X tg l (q9k X.K tl):=by
 intro pins s σ H R I h
 refine thn (hl pins s σ H _ I h) fun v s1 ⟨x,H1,I1,r1,q1⟩=> ?_
 obtain ⟨a,e,⟨xs,hq⟩,q⟩:=q1
 subst e
 cases r1
 obtain ⟨its,rv,p,hz⟩:=I1.list hq
 refine wpAny_pyIter_list p.isList ?_
 refine⟨s1.heap.objs.size,[s1.heap.objs.size],_,_,H1,rfl,I1.kept (t':=s1.toks) fun b o e=>Heap.get?_push_of_some _ e,qwz a _,⟨_,Heap.get?_push_size _ rfl,rfl,rfl⟩,fun b hb=> ?_,q⟩
 have e:b=s1.heap.objs.size:=by simpa using hb
 subst e
 exact I1.fpOk (Nat.le_refl _) (I1.hok.fresh (Nat.le_refl _))
theorem q5q {l:Expr} {tl:TE} (hl:PE X l tl):PI X tg l (iTup X.K tl):=by
 intro pins s σ H R I h
 refine thn (hl pins s σ H _ I h) fun v s1 ⟨x,H1,I1,r1,q1⟩=> ?_
 obtain ⟨a,e,⟨xs,hq⟩,q⟩:=q1
 subst e
 cases r1
 obtain ⟨its,rv,p,hz⟩:=I1.tuple hq
 refine wpAny_pyIter_tuple (show s1.heap.IsTuple a its.toArray from p) ?_
 refine⟨s1.heap.objs.size,[s1.heap.objs.size],_,_,H1,rfl,I1.kept (t':=s1.toks) fun b o e=>Heap.get?_push_of_some _ e,qt9 a _,⟨_,Heap.get?_push_size _ rfl,rfl,rfl⟩,fun b hb=> ?_,q⟩
 have e:b=s1.heap.objs.size:=by simpa using hb
 subst e
 exact I1.fpOk (Nat.le_refl _) (I1.hok.fresh (Nat.le_refl _))
theorem qri {pins:List (Addr × Obj)} {σ:St} {H:Hp} {s:Shared} {R:It→Hp→Prop} {E:Value→Shared→Prop} {lo hi:Int} {t u v:Tok} {tk:Nat} (I:Inv X pins σ H s) (h1: -(2 ^ 62)≤lo) (h2:lo < 2 ^ 62) (h3: -(2 ^ 62)≤hi) (h4:hi < 2 ^ 62)
   (q:R (Itr lo (hi - lo).toNat) H):wpAny (model X.prog X.w) X.A (pyIter (.ref s.heap.objs.size)) (PIE X pins σ tg R) E { s with heap:=s.heap.push { cls:=.type "range",data:=.fields #[.int lo t,.int hi u,.int 1 v] },toks:=tk }:=by
 refine wpAny_pyIter_range (IsRange.new ..) (small_one h1 h2 h3 h4) ?_
 have I1:Inv X pins σ H { s with heap:=s.heap.push { cls:=.type "range",data:=.fields #[.int lo t,.int hi u,.int 1 v] },toks:=tk }:=I.kept fun b o e=>Heap.get?_push_of_some _ e
 refine⟨(s.heap.push { cls:=.type "range",data:=.fields #[.int lo t,.int hi u,.int 1 v] }).objs.size,[(s.heap.push { cls:=.type "range",data:=.fields #[.int lo t,.int hi u,.int 1 v] }).objs.size],_,_,H,rfl,
   I1.kept (t':=tk) fun b o e=>Heap.get?_push_of_some _ e,qua _ lo (hi - lo).toNat,?_,fun b hb=> ?_,q⟩
 · have e1:lo+((0:Nat):Int) * 1=lo:=by simp
   have e2:(((hi - lo).toNat:Nat):Int) - ((0:Nat):Int)=Builtin.Range.rangeSize lo hi 1:=by rw[rangeSize_one];split <;> omega
   show IsRangeIter _ _ (lo+((0:Nat):Int) * 1) ((((hi - lo).toNat:Nat):Int) - ((0:Nat):Int)) 1
   rw[e1,e2]
   exact Heap.get?_push_size _ rfl
 · have e:b=(s.heap.push { cls:=.type "range",data:=.fields #[.int lo t,.int hi u,.int 1 v] }).objs.size:=by simpa using hb
   subst e
   exact I1.fpOk (Nat.le_refl _) (I1.hok.fresh (Nat.le_refl _))
noncomputable def q9l (ta:TA):TI:=fun σ H R=>ta σ H fun vs H1=>∃ j:Int,vs=[.int j]∧ -(2 ^ 62)≤j∧j < 2 ^ 62∧R (Itr 0 j.toNat) H1
noncomputable def q9m (ta:TA):TI:=fun σ H R=>ta σ H fun vs H1=>∃ i j:Int,vs=[.int i,.int j]∧(-(2 ^ 62)≤i∧i < 2 ^ 62∧ -(2 ^ 62)≤j∧j < 2 ^ 62)∧R (Itr i (j - i).toNat) H1
theorem qw0 {a:Expr} {ta:TA} {p pos:Pos} (hg:Gl X "range") (hm:X.mg "range"=none) (ha:PA X [a] ta) (hs:starEach [a] X.env=[(false,eval a X.env)]:=by rfl):PI X tg (.Call (.Name "range" p) [a] [] pos) (q9l ta):=by
 intro pins s σ H R I h
 refine Call_ (qgf I hg hm boot_range (PyProof.Rows.callWith_type1 (thn (ha pos pins s σ H _ I h) fun us s1 ⟨vs,H1,I1,r1,q1⟩=> ?_) hs rfl))
 obtain ⟨j,e,q1,q2,q⟩:=q1
 subst e
 cases r1 with
 | cons r rr =>
   cases rr
   obtain ⟨t,rfl⟩:=r
   exact call_range_1 (qri I1 (by omega) (by omega) q1 q2 (by simpa using q))
theorem qw1 {a b:Expr} {ta:TA} {p pos:Pos} (hg:Gl X "range") (hm:X.mg "range"=none) (ha:PA X [a,b] ta) (hs:starEach [a,b] X.env=[(false,eval a X.env),(false,eval b X.env)]:=by rfl) (hs2:starEach [b] X.env=[(false,eval b X.env)]:=by rfl) :
   PI X tg (.Call (.Name "range" p) [a,b] [] pos) (q9m ta):=by
 intro pins s σ H R I h
 refine Call_ (qgf I hg hm boot_range (PyProof.Rows.callWith_type1 (thn (ha pos pins s σ H _ I h) fun us s1 ⟨vs,H1,I1,r1,q1⟩=> ?_) (by rw[hs,hs2]) (by rw[hs2];rfl)))
 obtain ⟨i,j,e,⟨q1,q2,q3,q4⟩,q⟩:=q1
 subst e
 cases r1 with
 | cons r rr =>
   cases rr with
   | cons r' rr =>
     cases rr
     obtain ⟨t,rfl⟩:=r
     obtain ⟨t',rfl⟩:=r'
     exact call_range_2 (qri I1 q1 q2 q3 q4 q)
noncomputable def tFor (wi:TI) (g:TG) (tb:TS):TS:=fun D σ H=>wi σ H fun J H1=>∃ W:Nat→Nat→St→Hp→Prop,(∃ m,W 0 m σ H1)∧∀ i m σ H,W i m σ H →
 (J.stop i H∧D.nx σ H)∨(J.go i H∧∃ N:St→Hp→Prop,(∀ σ' H',N σ' H'→∃ m',m' < m∧W (i+1) m' σ' H')∧∀ x H',J.yld i H x H'→g x σ H' fun σ2 H2=>tb { D with nx:=N,ct:=N,bk:=D.nx } σ2 H2)
noncomputable def qee (fp:List Addr) (h:Heap):List (Addr × Obj):=fp.filterMap fun b=>(h.get? b).map fun o=>(b,o)
theorem qar {fp:List Addr} {h:Heap} {b:Addr} {o:Obj} (hb:b ∈ fp) (e:h.get? b=some o):(b,o) ∈ qee fp h:=List.mem_filterMap.mpr ⟨b,hb,by rw[e];rfl⟩
theorem qn8 {fp:List Addr} {h:Heap} {p:Addr × Obj} (hp:p ∈ qee fp h):p.1 ∈ fp∧h.get? p.1=some p.2:=by
 obtain ⟨b,hb,e⟩:=List.mem_filterMap.mp hp
 cases q:h.get? b with
 | none=>rw[q]at e;cases e
 | some o =>
   rw[q]at e
   have e':(b,o)=p:=Option.some.inj e
   subst e'
   exact⟨hb,q⟩
theorem Inv.pinned {pins:List (Addr × Obj)} {σ:St} {H:Hp} {s:Shared} {fp:List Addr} (I:Inv X pins σ H s) (hf:∀ b ∈ fp,qed X pins H b) (ho:∀ b ∈ fp,∃ o,s.heap.get? b=some o∧∀ v,o.data ≠ .cell v):Inv X (pins++qee fp s.heap) σ H s :=
 I.pins_of fun p hp=>(List.mem_append.mp hp).elim (fun z=>I.pin p (List.mem_append_right _ z)) fun z=>by
   obtain ⟨hb,e⟩:=qn8 z
   obtain ⟨f0,f1,f2,_⟩:=hf p.1 hb
   obtain ⟨o,e',d⟩:=ho p.1 hb
   rw[e]at e';cases e'
   exact⟨e,f0,f1,f2,d⟩
theorem Inv.unpinned {pins pl:List (Addr × Obj)} {σ:St} {H:Hp} {s:Shared} (I:Inv X (pins++pl) σ H s):Inv X pins σ H s:=I.pins_of fun p hp=>I.pin p (List.mem_append_right _ (List.mem_append_left _ hp))
theorem q5r {iter:Expr} {body:List Stmt} {wi:TI} {g:TG} {tb:TS} {pos:Pos} (hp:PassesOwn (model X.prog X.w) X.A X.env X.xe) (hc:X.calm=true) (hi:PI X tg iter wi) (hg:PG X tg g) (hb:PSs X body tb)
   (hs:∀ x,foldedSetIterable iter X.env x=pure x:=by intro _;rfl):PS X (.For tg iter body [] pos) (tFor wi g tb):=by
 intro pins s σ H D I h
 refine wpAny_For (thn (hi pins s σ H _ I h) fun v s1 h1=>thn h1 fun itv s2 h2=> ?_) hs
 obtain ⟨it,fp,tn,J,H2,e,I2,T,st2,f2,W,⟨m0,w0⟩,turn⟩:=h2
 subst e
 have stat:∀ {H':Hp},(∀ b ∈ fp,H' b=none)→∀ b ∈ fp,qed X pins H' b:=fun hn b hb=>⟨hn b hb,(f2 b hb).2⟩
 refine codeAny_forLoop_any (fun n s'=>∃ i σ' H',Inv X pins σ' H' s'∧tn i s'.heap∧(∀ b ∈ fp,H' b=none)∧W i n σ' H') ?_ m0 ⟨0,σ,H2,I2,st2,fun b hb=>(f2 b hb).1,w0⟩
 rintro n s3 ⟨i,σ3,H3,I3,st3,fr3,w3⟩
 rcases turn i n σ3 H3 w3 with ⟨stop,qn⟩ | ⟨go,N,hN,step⟩
 · refine wpAny_passesOwn hp (thn (T.done X rfl rfl rfl hc i pins s3 σ3 H3 X.xe I3 (stat fr3) st3 stop) fun r s4 ⟨hr,I4⟩=> ?_)
   subst hr
   exact wpAny_execs_nil ⟨σ3,H3,I4,qn⟩
 · refine wpAny_passesOwn hp (thn (T.item X rfl rfl rfl hc i pins s3 σ3 H3 X.xe I3 (stat fr3) st3 go) fun r s4 ⟨u,hr,h4⟩=> ?_)
   subst hr
   refine wpAny_passesOwn hp (thn h4 fun _ s5 ⟨x,H5,I5,r5,y5,st5,fr5⟩=> ?_)
   have I5':=I5.pinned (stat fr5) (T.obj _ _ st5)
   refine wpAny_passesOwn hp (thn (hg _ s5 σ3 H5 x u _ I5' r5 (step x H5 y5)) fun _ s6 ⟨σ6,H6,I6,q6⟩=> ?_)
   refine wpAny_passesOwn hp (thn (hb _ s6 σ6 H6 _ I6 q6) fun f s7 q7=> ?_)
   have again:∀ {σ7:St} {H7:Hp},Inv X (pins++qee fp s5.heap) σ7 H7 s7→N σ7 H7→∃ m,m < n∧∃ i σ' H',Inv X pins σ' H' s7∧tn i s7.heap∧(∀ b ∈ fp,H' b=none)∧W i m σ' H':=fun {σ7 H7} I7 n7=>by
     obtain ⟨m',hm,w7⟩:=hN σ7 H7 n7
     refine⟨m',hm,i+1,σ7,H7,I7.unpinned,T.keep _ _ _ st5 fun b hb o e=>(I7.pin (b,o) (List.mem_append_right _ (List.mem_append_right _ (qar hb e)))).1,fun b hb=> ?_,w7⟩
     obtain ⟨o,e,d⟩:=T.obj _ _ st5 b hb
     exact(I7.pin (b,o) (List.mem_append_right _ (List.mem_append_right _ (qar hb e)))).2.1
   cases f with
   | next=>obtain ⟨σ7,H7,I7,n7⟩:=q7;exact again I7 n7
   | cont=>obtain ⟨σ7,H7,I7,n7⟩:=q7;exact again I7 n7
   | brk=>obtain ⟨σ7,H7,I7,q7⟩:=q7;exact⟨σ7,H7,I7.unpinned,q7⟩
   | ret v=>obtain ⟨x7,σ7,H7,I7,r7,q7⟩:=q7;exact⟨x7,σ7,H7,I7.unpinned,r7,q7⟩
end
noncomputable abbrev R2:=V→V→Hp→VK→Prop
noncomputable def OpR (X:Cx) (f:Value→Value→Sem Value) (r:R2):Prop :=
 ∀ (pins:List (Addr × Obj)) (s:Shared) (σ:St) (H:Hp) (x y:V) (v u:Value) (Q:VK),Inv X pins σ H s→RelV x v→RelV y u→r x y H Q →
   wpAny (model X.prog X.w) X.A (f v u) (EP X pins σ Q) X.xe s
noncomputable def UnR (X:Cx) (f:Value→Sem Value) (r:V→Hp→VK→Prop):Prop :=
 ∀ (pins:List (Addr × Obj)) (s:Shared) (σ:St) (H:Hp) (x:V) (v:Value) (Q:VK),Inv X pins σ H s→RelV x v→r x H Q →
   wpAny (model X.prog X.w) X.A (f v) (EP X pins σ Q) X.xe s
noncomputable def qaj (X:Cx) (f:Value) (r:List V→Hp→VK→Prop):Prop :=
 ∀ (pins:List (Addr × Obj)) (s:Shared) (σ:St) (H:Hp) (xs:List V) (us:List Value) (Q:VK),Inv X pins σ H s→Vals xs us→r xs H Q →
   wpAny (model X.prog X.w) X.A (call f us) (EP X pins σ Q) X.xe s
noncomputable def q9n (X:Cx) (r:V→Hp→(Bool→Hp→Prop)→Prop):Prop :=
 ∀ (pins:List (Addr × Obj)) (s:Shared) (σ:St) (H:Hp) (x:V) (v:Value) (Q:Bool→Hp→Prop),Inv X pins σ H s→RelV x v→r x H Q →
   wpAny (model X.prog X.w) X.A (truthy v) (TP X pins σ Q) X.xe s
noncomputable def tOp (r:R2) (ta tb:TE):TE:=fun σ H Q=>ta σ H fun x H1=>tb σ H1 fun y H2=>r x y H2 Q
noncomputable def tUn (r:V→Hp→VK→Prop) (ta:TE):TE:=fun σ H Q=>ta σ H fun x H1=>r x H1 Q
noncomputable def rI (C:Int→Int→Prop) (g:Int→Int→V):R2:=fun x y H Q=>∃ i j,x=.int i∧y=.int j∧C i j∧Q (g i j) H
noncomputable def rI0 (g:Int→Int→V):R2:=fun x y H Q=>∃ i j,x=.int i∧y=.int j∧Q (g i j) H
noncomputable def rU (g:Int→V):V→Hp→VK→Prop:=fun x H Q=>∃ i,x=.int i∧Q (g i) H
section
variable {X:Cx} {a b c:Expr} {ta tb tc:TE} {pos:Pos}
theorem q5s (ha:PE X a ta) (hb:PE X b tb) {pins:List (Addr × Obj)} {s:Shared} {σ:St} {H:Hp} {R:V→V→Hp→Prop} (I:Inv X pins σ H s)
   (h:ta σ H fun x H1=>tb σ H1 fun y H2=>R x y H2) {Q:Value→Shared→Prop} {f:Value→Value→Sem Value}
   (hf:∀ v u s2 x y H2,Inv X pins σ H2 s2→RelV x v→RelV y u→R x y H2→wpAny (model X.prog X.w) X.A (f v u) Q X.xe s2) :
   wpAny (model X.prog X.w) X.A (eval a X.env) (fun v s₁=>wpAny (model X.prog X.w) X.A (eval b X.env) (fun u s₂=>wpAny (model X.prog X.w) X.A (f v u) Q X.xe s₂) X.xe s₁) X.xe s:=by
 refine thn (ha pins s σ H _ I h) fun v s1 ⟨x,H1,I1,r1,q1⟩=> ?_
 refine thn (hb pins s1 σ H1 _ I1 q1) fun u s2 ⟨y,H2,I2,r2,q2⟩=> ?_
 exact hf v u s2 x y H2 I2 r1 r2 q2
theorem q9o {op:Operator} {r:R2} (ho:OpR X (binaryOp op) r) (ha:PE X a ta) (hb:PE X b tb):PE X (.BinOp a op b pos) (tOp r ta tb):=by
 intro pins s σ H Q I h
 exact wpAny_BinOp (q5s ha hb I h fun v u s2 x y H2 I2 rx ry q=>ho pins s2 σ H2 x y v u Q I2 rx ry q)
theorem q9p {op:UnaryOp} {r:V→Hp→VK→Prop} (ho:UnR X (unaryOp op) r) (ha:PE X a ta):PE X (.UnaryOp op a pos) (tUn r ta):=by
 intro pins s σ H Q I h
 exact UnaryOp_ (thn (ha pins s σ H _ I h) fun v s1 ⟨x,H1,I1,r1,q1⟩=>ho pins s1 σ H1 x v Q I1 r1 q1)
theorem opI {f:Value→Value→Sem Value} {C:Int→Int→Prop} {g:Int→Int→Int}
   (rule:∀ (i j:Int) (t u:Tok) (s:Shared) (Q:Value→Shared→Prop) (E:Value→Shared→Prop),C i j→Q (.int (g i j) s.toks) { s with toks:=s.toks+1 }→wpAny (model X.prog X.w) X.A (f (.int i t) (.int j u)) Q E s) :
   OpR X f (rI C fun i j=>.int (g i j)):=by
 intro pins s σ H x y v u Q I rx ry h
 obtain ⟨i,j,rfl,rfl,hc,q⟩:=h
 obtain ⟨t,rfl⟩:=rx
 obtain ⟨t',rfl⟩:=ry
 exact rule i j t t' s _ _ hc ⟨.int (g i j),H,I.tok _,⟨_,rfl⟩,q⟩
theorem q9q {f:Value→Value→Sem Value} {g:Int→Int→Int}
   (rule:∀ (i j:Int) (t u:Tok) (s:Shared) (Q:Value→Shared→Prop) (E:Value→Shared→Prop),Q (.int (g i j) s.toks) { s with toks:=s.toks+1 }→wpAny (model X.prog X.w) X.A (f (.int i t) (.int j u)) Q E s) :
   OpR X f (rI0 fun i j=>.int (g i j)):=by
 intro pins s σ H x y v u Q I rx ry h
 obtain ⟨i,j,rfl,rfl,q⟩:=h
 obtain ⟨t,rfl⟩:=rx
 obtain ⟨t',rfl⟩:=ry
 exact rule i j t t' s _ _ ⟨.int (g i j),H,I.tok _,⟨_,rfl⟩,q⟩
theorem q11 {f:Value→Value→Sem Value} {g:Int→Int→Bool}
   (rule:∀ (i j:Int) (t u:Tok) (s:Shared) (Q:Value→Shared→Prop) (E:Value→Shared→Prop),Q (.bool (g i j)) s→wpAny (model X.prog X.w) X.A (f (.int i t) (.int j u)) Q E s) :
   OpR X f (rI0 fun i j=>.bl (g i j)):=by
 intro pins s σ H x y v u Q I rx ry h
 obtain ⟨i,j,rfl,rfl,q⟩:=h
 obtain ⟨t,rfl⟩:=rx
 obtain ⟨t',rfl⟩:=ry
 exact rule i j t t' s _ _ ⟨.bl (g i j),H,I,rfl,q⟩
noncomputable def qpc (i j:Int):Prop:=0≤j∧j≤1000000∧i.natAbs < 2 ^ 64
noncomputable def qw2 (i j:Int):Prop:=(-(2 ^ 64) < i∧i < 2 ^ 64)∨(-(2 ^ 64) < j∧j < 2 ^ 64)
theorem qw2.ok {i j:Int} (h:qw2 i j):IntMulOk i j:=by
 rcases h with ⟨h1,h2⟩ | ⟨h1,h2⟩
 · exact .of_left (intBits_le_64 h1 h2)
 · exact .of_right (intBits_le_64 h1 h2)
theorem q5t:OpR X (binaryOp .Add) (rI0 fun i j=>.int (i+j)):=q9q fun _ _ _ _ _ _ _ q=>add_int q
theorem q5u:OpR X (binaryOp .Sub) (rI0 fun i j=>.int (i - j)):=q9q fun _ _ _ _ _ _ _ q=>sub_int q
theorem q5v:OpR X (binaryOp .Mult) (rI qw2 fun i j=>.int (i * j)):=opI fun _ _ _ _ _ _ _ hc q=>mul_int q hc.ok
theorem q5w:OpR X (binaryOp .Mod) (rI (fun _ j=>0 < j) fun i j=>.int (i % j)):=opI fun i j _ _ _ _ _ hc q=>by
 have h1:(0:Int) < j:=hc
 exact mod_int' (by omega) (by rw[Int.fmod_eq_emod_of_nonneg i (by omega)];exact q)
theorem q5x:OpR X (binaryOp .Pow) (rI qpc fun i j=>.int (i ^ j.toNat)):=opI fun _ _ _ _ _ _ _ hc q=>pow_int_small hc.1 hc.2.1 hc.2.2 q
theorem unI {f:Value→Sem Value} {g:Int→Int}
   (rule:∀ (i:Int) (t:Tok) (s:Shared) (Q:Value→Shared→Prop) (E:Value→Shared→Prop),Q (.int (g i) s.toks) { s with toks:=s.toks+1 }→wpAny (model X.prog X.w) X.A (f (.int i t)) Q E s) :
   UnR X f (rU fun i=>.int (g i)):=by
 intro pins s σ H x v Q I rx h
 obtain ⟨i,rfl,q⟩:=h
 obtain ⟨t,rfl⟩:=rx
 exact rule i t s _ _ ⟨.int (g i),H,I.tok _,⟨_,rfl⟩,q⟩
theorem q5y:UnR X (unaryOp .USub) (rU fun i=>.int (-i)):=unI fun _ _ _ _ _ q=>neg_int q
end
noncomputable def qpd:V→V→Bool
 | .non,.non=>true | .non,.int _=>true | .int _,.non=>true | .non,.bl _=>true | .bl _,.non=>true | .non,.str _=>true | .str _,.non=>true
 | .int _,.int _=>true | .bl _,.bl _=>true | .str _,.str _=>true | .byt _,.byt _=>true
 | .int _,.str _=>true | .str _,.int _=>true | .bl _,.str _=>true | .str _,.bl _=>true
 | _,_=>false
noncomputable def rEq:R2:=fun x y H Q=>qpd x y=true∧Q (.bl (decide (x=y))) H
noncomputable def rNe:R2:=fun x y H Q=>qpd x y=true∧Q (.bl (!decide (x=y))) H
theorem qpe {i j:Int}:decide (V.int i=V.int j)=(i==j):=by
 rw[Bool.eq_iff_iff]
 simp
theorem qym {i j:Bool}:decide (V.bl i=V.bl j)=(i==j):=by
 rw[Bool.eq_iff_iff]
 simp
theorem qvj {i j:Str}:decide (V.str i=V.str j)=(i==j):=by
 rw[Bool.eq_iff_iff]
 simp
theorem qvk {i j:Array UInt8}:decide (V.byt i=V.byt j)=(i.toList==j.toList):=by
 rw[Bool.eq_iff_iff]
 cases i
 cases j
 simp
section
variable {X:Cx} {a b c:Expr} {ta tb tc:TE} {pos:Pos}
theorem ql {pins:List (Addr × Obj)} {σ:St} {H:Hp} {s:Shared} {Q:VK} {k k':Bool} (I:Inv X pins σ H s) (q:Q (.bl k) H) (e:k=k'):EP X pins σ Q (.bool k') s:=by
 subst e
 exact⟨.bl k,H,I,rfl,q⟩
theorem q9r:OpR X (compareOp .Eq) rEq:=by
 intro pins s σ H x y v u Q I rx ry h
 obtain ⟨hs,q⟩:=h
 cases x with
 | non =>
   cases rx
   cases y with
   | non=>cases ry;exact PySem.EqNone.eq_none_none (ql I q (by simp))
   | bl j=>cases ry;exact PySem.EqNone.eq_none_bool (ql I q (by simp))
   | int j=>obtain ⟨t',rfl⟩:=ry;exact PySem.EqNone.eq_none_int (ql I q (by simp))
   | str j=>obtain ⟨t',rfl⟩:=ry;exact PySem.EqNone.eq_none_str (ql I q (by simp))
   | _=>exact absurd (show false=true from hs) Bool.false_ne_true
 | bl i =>
   cases rx
   cases y with
   | non=>cases ry;exact PySem.EqNone.eq_bool_none (ql I q (by simp))
   | bl j=>cases ry;exact eq_bool (ql I q qym)
   | str j=>obtain ⟨t',rfl⟩:=ry;exact PySem.EqMixed.eq_bool_str (ql I q (by simp))
   | _=>exact absurd (show false=true from hs) Bool.false_ne_true
 | int i =>
   obtain ⟨t,rfl⟩:=rx
   cases y with
   | non=>cases ry;exact PySem.EqNone.eq_int_none (ql I q (by simp))
   | int j=>obtain ⟨t',rfl⟩:=ry;exact eq_int (ql I q qpe)
   | str j=>obtain ⟨t',rfl⟩:=ry;exact PySem.EqMixed.eq_int_str (ql I q (by simp))
   | _=>exact absurd (show false=true from hs) Bool.false_ne_true
 | str i =>
   obtain ⟨t,rfl⟩:=rx
   cases y with
   | non=>cases ry;exact PySem.EqNone.eq_str_none (ql I q (by simp))
   | bl j=>cases ry;exact PySem.EqMixed.eq_str_bool (ql I q (by simp))
   | int j=>obtain ⟨t',rfl⟩:=ry;exact PySem.EqMixed.eq_str_int (ql I q (by simp))
   | str j=>obtain ⟨t',rfl⟩:=ry;exact eq_str (ql I q qvj)
   | _=>exact absurd (show false=true from hs) Bool.false_ne_true
 | byt i =>
   obtain ⟨t,rfl⟩:=rx
   cases y with
   | byt j=>obtain ⟨t',rfl⟩:=ry;exact PySem.W.eq_bytes (ql I q qvk)
   | _=>exact absurd (show false=true from hs) Bool.false_ne_true
 | _=>cases y <;> exact absurd (show false=true from hs) Bool.false_ne_true
theorem q9s:OpR X (compareOp .NotEq) rNe:=by
 intro pins s σ H x y v u Q I rx ry h
 obtain ⟨hs,q⟩:=h
 cases x with
 | non =>
   cases rx
   cases y with
   | non=>cases ry;exact PySem.EqNone.ne_none_none (ql I q (by simp))
   | bl j=>cases ry;exact PySem.EqNone.ne_none_bool (ql I q (by simp))
   | int j=>obtain ⟨t',rfl⟩:=ry;exact PySem.EqNone.ne_none_int (ql I q (by simp))
   | str j=>obtain ⟨t',rfl⟩:=ry;exact PySem.EqNone.ne_none_str (ql I q (by simp))
   | _=>exact absurd (show false=true from hs) Bool.false_ne_true
 | bl i =>
   cases rx
   cases y with
   | non=>cases ry;exact PySem.EqNone.ne_bool_none (ql I q (by simp))
   | bl j=>cases ry;exact ne_bool (ql I q (congrArg not qym))
   | str j=>obtain ⟨t',rfl⟩:=ry;exact PySem.EqMixed.ne_bool_str (ql I q (by simp))
   | _=>exact absurd (show false=true from hs) Bool.false_ne_true
 | int i =>
   obtain ⟨t,rfl⟩:=rx
   cases y with
   | non=>cases ry;exact PySem.EqNone.ne_int_none (ql I q (by simp))
   | int j=>obtain ⟨t',rfl⟩:=ry;exact ne_int (ql I q (congrArg not qpe))
   | str j=>obtain ⟨t',rfl⟩:=ry;exact PySem.EqMixed.ne_int_str (ql I q (by simp))
   | _=>exact absurd (show false=true from hs) Bool.false_ne_true
 | str i =>
   obtain ⟨t,rfl⟩:=rx
   cases y with
   | non=>cases ry;exact PySem.EqNone.ne_str_none (ql I q (by simp))
   | bl j=>cases ry;exact PySem.EqMixed.ne_str_bool (ql I q (by simp))
   | int j=>obtain ⟨t',rfl⟩:=ry;exact PySem.EqMixed.ne_str_int (ql I q (by simp))
   | str j=>obtain ⟨t',rfl⟩:=ry;exact ne_str (ql I q (congrArg not qvj))
   | _=>exact absurd (show false=true from hs) Bool.false_ne_true
 | byt i =>
   obtain ⟨t,rfl⟩:=rx
   cases y with
   | byt j=>obtain ⟨t',rfl⟩:=ry;exact PySem.W.ne_bytes (ql I q (congrArg not qvk))
   | _=>exact absurd (show false=true from hs) Bool.false_ne_true
 | _=>cases y <;> exact absurd (show false=true from hs) Bool.false_ne_true
theorem q9t:OpR X (compareOp .Lt) (rI0 fun i j=>.bl (decide (i < j))):=q11 fun _ _ _ _ _ _ _ q=>lt_int q
theorem q9u:OpR X (compareOp .LtE) (rI0 fun i j=>.bl (decide (i≤j))):=q11 fun _ _ _ _ _ _ _ q=>le_int q
theorem q9v:OpR X (compareOp .Gt) (rI0 fun i j=>.bl (decide (j < i))):=q11 fun _ _ _ _ _ _ _ q=>gt_int q
theorem q9w:OpR X (compareOp .GtE) (rI0 fun i j=>.bl (decide (j≤i))):=q11 fun _ _ _ _ _ _ _ q=>ge_int q
theorem qw3:OpR X (compareOp .In) (fun x y H Q=>∃ i j,x=.str i∧y=.str j∧Q (.bl (!(Builtin.Str.occurrences j i 0 j.length 1).isEmpty)) H):=by
 intro pins s σ H x y v u Q I rx ry h
 obtain ⟨i,j,rfl,rfl,q⟩:=h
 obtain ⟨t,rfl⟩:=rx
 obtain ⟨t',rfl⟩:=ry
 exact in_str (ql I q rfl)
theorem q5z:OpR X (compareOp .Is) (fun x y H Q=>y=.non∧Q (.bl (decide (x=.non))) H):=by
 intro pins s σ H x y v u Q I rx ry h
 obtain ⟨rfl,q⟩:=h
 cases ry
 refine is_none_gen (ql I q ?_)
 cases x <;> first
   | (cases rx;rfl)
   | (obtain ⟨t,rfl⟩:=rx;rfl)
theorem q12:OpR X (compareOp .IsNot) (fun x y H Q=>y=.non∧Q (.bl (!decide (x=.non))) H):=by
 intro pins s σ H x y v u Q I rx ry h
 obtain ⟨rfl,q⟩:=h
 cases ry
 refine isnot_none_gen (ql I q ?_)
 cases x <;> first
   | (cases rx;rfl)
   | (obtain ⟨t,rfl⟩:=rx;rfl)
theorem qpf:OpR X (compareOp .NotIn) (fun x y H Q=>∃ i j,x=.str i∧y=.str j∧Q (.bl (!(!(Builtin.Str.occurrences j i 0 j.length 1).isEmpty))) H):=by
 intro pins s σ H x y v u Q I rx ry h
 obtain ⟨i,j,rfl,rfl,q⟩:=h
 obtain ⟨t,rfl⟩:=rx
 obtain ⟨t',rfl⟩:=ry
 exact notIn_str (ql I q rfl)
theorem OpR.or {f:Value→Value→Sem Value} {r r':R2} (h:OpR X f r) (h':OpR X f r'):OpR X f (fun x y H Q=>r x y H Q∨r' x y H Q):=by
 intro pins s σ H x y v u Q I rx ry q
 rcases q with q | q
 · exact h pins s σ H x y v u Q I rx ry q
 · exact h' pins s σ H x y v u Q I rx ry q
theorem q13 {op:CmpOp} {r:R2} (ho:OpR X (compareOp op) r) (ha:PE X a ta) (hb:PE X b tb) (hm:behindInMarks op b=false):PE X (.Compare a [op] [b] pos) (tOp r ta tb):=by
 intro pins s σ H Q I h
 exact wpAny_Compare1 (q5s ha hb I h fun v u s2 x y H2 I2 rx ry q=>ho pins s2 σ H2 x y v u Q I2 rx ry q) hm
noncomputable def q4i (t:TE):TT:=fun σ H Q=>t σ H fun x H'=>∃ k,x=.bl k∧Q k H'
theorem q14 {op:CmpOp} {r:R2} (ho:OpR X (compareOp op) r) (ha:PE X a ta) (hb:PE X b tb) (hm:behindInMarks op b=false):PT X (.Compare a [op] [b] pos) (q4i (tOp r ta tb)):=by
 intro pins s σ H Q I h
 refine wpAny_isTrue_Compare1 (thn (ha pins s σ H _ I h) fun v s1 ⟨x,H1,I1,r1,q1⟩=>thn (hb pins s1 σ H1 _ I1 q1) fun u s2 ⟨y,H2,I2,r2,q2⟩ =>
   thn (ho pins s2 σ H2 x y v u _ I2 r1 r2 q2) fun c s3 ⟨z,H3,I3,r3,k,e,q3⟩=> ?_) hm
 subst e
 cases r3
 exact wpAny_truthy_bool ⟨H3,I3,q3⟩
noncomputable def qub (r r':R2) (ta tb tc:TE):TE:=fun σ H Q=>ta σ H fun x H1=>tb σ H1 fun y H2=>r x y H2 fun z H3=>∃ k,z=.bl k ∧
 (if k=true then tc σ H3 fun w' H4=>r' y w' H4 Q else Q (.bl false) H3)
theorem qyn {op op':CmpOp} {r r':R2} (ho:OpR X (compareOp op) r) (ho':OpR X (compareOp op') r') (ha:PE X a ta) (hb:PE X b tb) (hc:PE X c tc)
   (hm:lastMarks [op,op'] [b,c]=false:=by with_unfolding_all rfl):PE X (.Compare a [op,op'] [b,c] pos) (qub r r' ta tb tc):=by
 intro pins s σ H Q I h
 refine Compare_chain (thn (ha pins s σ H _ I h) fun v s1 ⟨x,H1,I1,r1,q1⟩=>chain_link (thn (hb pins s1 σ H1 _ I1 q1) fun u s2 ⟨y,H2,I2,r2,q2⟩ =>
   thn (ho pins s2 σ H2 x y v u _ I2 r1 r2 q2) fun d s3 ⟨z,H3,I3,r3,k,e,q3⟩=> ?_)) hm
 subst e
 cases r3
 refine wpAny_truthy_bool ?_
 cases k with
 | false=>exact ite_ff ⟨.bl false,H3,I3,rfl,q3⟩
 | true=>exact ite_tt (chain_last (thn (hc pins s3 σ H3 _ I3 q3) fun w' s4 ⟨z',H4,I4,r4,q4⟩=>ho' pins s4 σ H4 y z' u w' Q I4 r2 r4 q4))
theorem qyo {op op':CmpOp} {r r':R2} (ho:OpR X (compareOp op) r) (ho':OpR X (compareOp op') r') (ha:PE X a ta) (hb:PE X b tb) (hc:PE X c tc)
   (hm:lastMarks [op,op'] [b,c]=false:=by with_unfolding_all rfl):PT X (.Compare a [op,op'] [b,c] pos) (q4i (qub r r' ta tb tc)):=by
 intro pins s σ H Q I h
 refine isTrue_chain (thn (ha pins s σ H _ I h) fun v s1 ⟨x,H1,I1,r1,q1⟩=>test_link (thn (hb pins s1 σ H1 _ I1 q1) fun u s2 ⟨y,H2,I2,r2,q2⟩ =>
   thn (ho pins s2 σ H2 x y v u _ I2 r1 r2 q2) fun d s3 ⟨z,H3,I3,r3,k,e,q3⟩=> ?_)) hm
 subst e
 cases r3
 refine wpAny_truthy_bool ?_
 cases k with
 | false =>
   obtain ⟨k',e',q'⟩:=q3
   cases e'
   exact ite_ff ⟨H3,I3,q'⟩
 | true =>
   refine ite_tt (test_last (thn (hc pins s3 σ H3 _ I3 q3) fun w' s4 ⟨z',H4,I4,r4,q4⟩=>thn (ho' pins s4 σ H4 y z' u w' _ I4 r2 r4 q4) fun d' s5 ⟨z2,H5,I5,r5,k2,e2,q5⟩=> ?_))
   subst e2
   cases r5
   exact wpAny_truthy_bool ⟨H5,I5,q5⟩
noncomputable def q9x (K:PySem.W.Frag) (x:V) (H:Hp) (k:Bool):Prop :=
 match x with
 | .non=>k=false
 | .bl b=>k=b
 | .int i=>k=(i != 0)
 | .str y=>y.length≤sizeLine∧k=((y.length:Int) != 0)
 | .byt y=>y.size≤sizeLine∧k=((y.size:Int) != 0)
 | .ref p=>(∃ xs,SqL K H p xs∧k= !xs.isEmpty)∨(∃ xs,SqT K H p xs∧k= !xs.isEmpty)∨∃ kvs,H p=some (.dK kvs)∧k= !kvs.isEmpty
 | _=>False
theorem quc {κ:Type} {kvs:List (κ × V)} {vs:List (κ × Value)} (r:KV kvs vs):(!vs.isEmpty)= !kvs.isEmpty:=by
 cases r <;> rfl
theorem qk0 {xs:List V} {its:List Value} (r:Vals xs its):(!its.toArray.isEmpty)= !xs.isEmpty:=by
 cases r <;> simp
theorem qe4:(sizeLine:Nat) < 2 ^ 63:=by rw[sizeLine_eq];decide
theorem q50:q9n X (fun x H Q=>∃ k,q9x X.K x H k∧Q k H):=by
 intro pins s σ H x v Q I rx h
 obtain ⟨k,e,q⟩:=h
 have hl:=qe4
 have hs:sizeLine=16777216:=sizeLine_eq
 cases x with
 | non =>
   cases rx
   have e':k=false:=e
   subst e'
   exact truthy_none ⟨H,I,q⟩
 | bl b =>
   cases rx
   have e':k=b:=e
   subst e'
   exact wpAny_truthy_bool ⟨H,I,q⟩
 | int i =>
   obtain ⟨t,rfl⟩:=rx
   have e':k=(i != 0):=e
   subst e'
   exact PySem.P.truthy_int ⟨H,I,q⟩
 | str y =>
   obtain ⟨t,rfl⟩:=rx
   obtain ⟨hy,e'⟩:y.length≤sizeLine∧k=((y.length:Int) != 0):=e
   subst e'
   exact PySem.P.truthy_str (by omega) ⟨H,I.tok _,q⟩
 | byt y =>
   obtain ⟨t,rfl⟩:=rx
   obtain ⟨hy,e'⟩:y.size≤sizeLine∧k=((y.size:Int) != 0):=e
   subst e'
   exact PySem.W.truthy_bytes (by omega) ⟨H,I.tok _,q⟩
 | ref p =>
   cases rx
   have e':(∃ xs,SqL X.K H p xs∧k= !xs.isEmpty)∨(∃ xs,SqT X.K H p xs∧k= !xs.isEmpty)∨∃ kvs,H p=some (.dK kvs)∧k= !kvs.isEmpty:=e
   rcases e' with ⟨xs,hx,e'⟩ | ⟨xs,hx,e'⟩ | ⟨kvs,hx,e'⟩
   · subst e'
     obtain ⟨its,r,pl,hz⟩:=I.list hx
     have hlen:=r.length
     exact wpAny_truthy_list pl.isList (by simp only [List.size_toArray];omega) ⟨H,I.tok _,by rw[qk0 r];exact q⟩
   · subst e'
     obtain ⟨its,r,pl,hz⟩:=I.tuple hx
     have hlen:=r.length
     exact truthy_tuple pl (by simp only [List.size_toArray];omega) ⟨H,I.tok _,by rw[qk0 r];exact q⟩
   · subst e'
     obtain ⟨hz,hS,vs,r,m⟩:kvs.length≤sizeLine∧(p==sysModules)=false∧∃ vs,KV kvs vs∧s.heap.DictOf (qo X.prog X.w) p vs:=I.hok p _ hx
     have hlen:kvs.length=vs.length:=Paired.length r
     exact wpAny_truthy_dict hS m (by omega) ⟨H,I.tok _,by rw[quc r];exact q⟩
 | _=>exact(show False from e).elim
theorem qud:OpR X (binaryOp .Add) (fun x y H Q=>∃ i j,x=.str i∧y=.str j∧i.length+j.length≤sizeLine∧Q (.str (i++j)) H):=by
 intro pins s σ H x y v u Q I rx ry h
 obtain ⟨i,j,rfl,rfl,hz,q⟩:=h
 obtain ⟨t,rfl⟩:=rx
 obtain ⟨t',rfl⟩:=ry
 exact add_str (fun t' tk=>⟨.str (i++j),H,I.tok _,⟨_,rfl⟩,q⟩) hz
theorem vals1 {x:V} {us:List Value} (r:Vals [x] us):∃ u,us=[u]∧RelV x u:=by
 cases r with
 | cons r1 r2=>cases r2;exact⟨_,rfl,r1⟩
theorem vals2 {x y:V} {us:List Value} (r:Vals [x,y] us):∃ u w',us=[u,w']∧RelV x u∧RelV y w':=by
 cases r with
 | cons r1 r2 =>
   cases r2 with
   | cons r3 r4=>cases r4;exact⟨_,_,rfl,r1,r3⟩
theorem qw4 (hc:X.calm=true):qaj X (.builtin "max") (fun xs H Q=>∃ i j,xs=[.int i,.int j]∧Q (.int (if j > i then j else i)) H):=by
 intro pins s σ H xs us Q I r h
 obtain ⟨i,j,rfl,q⟩:=h
 obtain ⟨u,w',rfl,⟨t,rfl⟩,⟨t',rfl⟩⟩:=vals2 r
 refine max_two_ints (I.ok.hd hc) fun h' tk k=>⟨_,H,I.kept k,?_,q⟩
 by_cases hj:j > i
 · rw[if_pos hj,if_pos hj];exact⟨_,rfl⟩
 · rw[if_neg hj,if_neg hj];exact⟨_,rfl⟩
theorem qw5 (hc:X.calm=true):qaj X (.builtin "min") (fun xs H Q=>∃ i j,xs=[.int i,.int j]∧Q (.int (if j < i then j else i)) H):=by
 intro pins s σ H xs us Q I r h
 obtain ⟨i,j,rfl,q⟩:=h
 obtain ⟨u,w',rfl,⟨t,rfl⟩,⟨t',rfl⟩⟩:=vals2 r
 refine min_two_ints (I.ok.hd hc) fun h' tk k=>⟨_,H,I.kept k,?_,q⟩
 by_cases hj:j < i
 · rw[if_pos hj,if_pos hj];exact⟨_,rfl⟩
 · rw[if_neg hj,if_neg hj];exact⟨_,rfl⟩
theorem qw6:qaj X (.type "int") (fun xs H Q=>(∃ i,xs=[.int i]∧Q (.int i) H)∨∃ k,xs=[.bl k]∧Q (.int (if k then 1 else 0)) H):=by
 intro pins s σ H xs us Q I r h
 rcases h with ⟨i,rfl,q⟩ | ⟨k,rfl,q⟩
 · obtain ⟨u,rfl,t,rfl⟩:=vals1 r
   exact call_int_int ⟨.int i,H,I,⟨_,rfl⟩,q⟩
 · obtain ⟨u,rfl,r1⟩:=vals1 r
   cases r1
   exact call_int_bool ⟨.int (if k then 1 else 0),H,I.tok _,⟨_,rfl⟩,q⟩
theorem qpg:qaj X (.type "str") (fun xs H Q=>∃ i,xs=[.int i]∧i.natAbs.log2 < 1920∧Q (.str (toString i)) H):=by
 intro pins s σ H xs us Q I r h
 obtain ⟨i,rfl,hz,q⟩:=h
 obtain ⟨u,rfl,t,rfl⟩:=vals1 r
 exact PySem.P.str_of_int hz ⟨.str _,H,I.tok _,⟨_,rfl⟩,q⟩
end
structure q51 (h:Heap) (x dx C:Addr) (mA:Str→Option Value):Prop where
 obj:h.get? x=some (PySem.W.instObj C dx)
 ns:h.Ns1 dx mA
 ne:dx ≠ x
theorem qw7 {h:Heap} {dx:Addr} {mA:Str→Option Value} (n:h.Ns1 dx mA):∃ od,h.get? dx=some od∧∀ name,PySem.W.lookIn name od=some (mA name):=by
 obtain ⟨o,es,ep,ho,hd,hk,_,hm⟩:=n
 refine⟨o,ho,fun name=> ?_⟩
 have e:=hm name
 unfold nsFind findBy at e
 rw[← Array.find?_toList]at e
 unfold PySem.W.lookIn
 rw[hd]
 dsimp only
 split
 · rename_i y q
   rw[q]at e
   exact congrArg some e
 · rename_i q
   rw[q]at e
   have a:es.toList.any (·.refKey)=false:=by
     rw[List.any_eq_false]
     intro y hy
     obtain ⟨z,t,hkey⟩:=hk y (Array.mem_toList_iff.mp hy)
     simp [DictEntry.refKey,hkey]
   have a':¬ es.toList.any (·.refKey)=true:=by rw[a];exact Bool.false_ne_true
   rw[if_neg a']
   exact congrArg some e
theorem q51.look {h:Heap} {x dx C:Addr} {mA:Str→Option Value} (I:q51 h x dx C mA):∃ od,PySem.W.InstAt h x (PySem.W.instObj C dx) C (some od)∧∀ name,PySem.W.lookIn name od=some (mA name) :=
 let ⟨od,ho,hl⟩:=qw7 I.ns
 ⟨od,⟨I.obj,rfl,rfl,ho⟩,hl⟩
section
variable {prog:Program} {w:World} {A:Around} {E:Value→Shared→Prop} {s:Shared} {K:PySem.W.Frag} {x dx C f:Addr} {mA:Str→Option Value} {name:Str} {v:Value}
end
theorem qky.some_of {v:V} {o:Option Value} (r:qky (some v) o):∃ u,o=some u∧RelV v u:=by
 cases o with
 | none=>exact(show False from r).elim
 | some u=>exact⟨u,rfl,r⟩
section
variable {P:Program} {w:World} {H H':Hp} {h h':Heap} {a C dx:Addr} {fs fs':List (Str × V)}
theorem q15 (hok:HOk P w H h) (e:H a=some (.ins C dx fs)):∃ mA,q51 h a dx C mA∧(∀ f,qky (fs.lookup f) (mA f))∧PySem.Within mA (fs.map (·.1))∧fs.length≤1000∧H dx=some (.own a):=by
 obtain ⟨d,z,ne,ob,mA,n,r,q⟩:=(show qat P w H h a (.ins C dx fs) from hok a _ e)
 exact⟨mA,⟨ob,n,ne⟩,r,q,z,d⟩
end
structure Cls (K:PySem.W.Frag) (C:Addr):Prop where
 pg:PySem.W.plainGet K C Str.empty=true
 hd:PySem.W.hasDictIn K C=true
 po:PySem.W.plainOver K C=true
 sa:PySem.W.findIn K (.ref C) "__setattr__"=some (some (.builtin "object.__setattr__"))
theorem Cls.get {K:PySem.W.Frag} {C:Addr} (c:Cls K C) (f:Str):PySem.W.plainGet K C f=true:=c.pg
section
variable {X:Cx} {pins:List (Addr × Obj)} {σ:St} {H:Hp} {s:Shared} {a C dx:Addr} {fs:List (Str × V)} {f:Str} {v:V} {A:Around} {E:Value→Shared→Prop}
end
section
variable {X:Cx} {o e value:Expr} {f:Str} {pos pos' tpos:Pos} {ta tv:TE}
end
section
variable {X:Cx} {pins:List (Addr × Obj)} {σ:St} {H:Hp} {s:Shared} {A:Around} {E:Value→Shared→Prop} {Q:Value→Shared→Prop} {c:Value} {b:Bool}
inductive qhb (K:PySem.W.Frag) (H:Hp):V→Value→Prop where
 | non:qhb K H .non (.type "NoneType")
 | bl (x:Bool):qhb K H (.bl x) (.type "bool")
 | int (i:Int):qhb K H (.int i) (.type "int")
 | str (x:Str):qhb K H (.str x) (.type "str")
 | flt (x:UInt64):qhb K H (.flt x) (.type "float")
 | lst {a:Addr} {xs:List V} (e:H a=some (.lst xs)):qhb K H (.ref a) (.type "list")
 | frz {a:Addr} {o:Obj} {xs:List V} (e:H a=some (.frz o (.lst xs))):qhb K H (.ref a) (.type "list")
 | tup {a:Addr} {xs:List V} (e:H a=some (.tup xs)):qhb K H (.ref a) (.type "tuple")
 | dK {a:Addr} {kvs:List (Key × V)} (e:H a=some (.dK kvs)):qhb K H (.ref a) (.type "dict")
 | dT {a:Addr} {kvs:List (List Key × V)} (e:H a=some (.dT kvs)):qhb K H (.ref a) (.type "dict")
 | ins {a C dx:Addr} {fs:List (Str × V)} (e:H a=some (.ins C dx fs)) (cl:Cls K C) (ha:PySem.W.findIn K (.ref C) "__class__"=some (some (.builtin "object.__class__")))
     (hn:PySem.W.specialIn K (.builtin "object.__class__") "__get__"=some (some (.builtin "getset_descriptor.__get__"))) (htk:PySem.W.takesIn K (.builtin "object.__class__")=some true)
     (hm:PySem.W.mroIn K C (.type "object")=some true):qhb K H (.ref a) (.ref C)
theorem qw8 {x:V} {u t:Value} (I:Inv X pins σ H s) (rx:RelV x u) (ty:qhb X.K H x t) (e:PySem.W.kitOne X.K t c=some b) (h:∀ tk,Q (.bool b) { s with toks:=tk }) :
   wpAny (model X.prog X.w) A (call (.builtin "isinstance") [u,c]) Q E s:=by
 cases ty with
 | non=>cases (show u=Value.none from rx);exact PySem.W.kia_one PySem.W.kitx_none I.kIn True.intro e (fun z=>nomatch z) h
 | bl y=>cases (show u=Value.bool y from rx);exact PySem.W.kia_one PySem.W.kitx_bool I.kIn True.intro e (fun z=>nomatch z) h
 | int i=>obtain ⟨t,q⟩:=(show ∃ t,u=Value.int i t from rx);cases q;exact PySem.W.kia_one PySem.W.kitx_int I.kIn True.intro e (fun z=>nomatch z) h
 | str y=>obtain ⟨t,q⟩:=(show ∃ t,u=Value.str y t from rx);cases q;exact PySem.W.kia_one PySem.W.kitx_str I.kIn True.intro e (fun z=>nomatch z) h
 | flt y=>obtain ⟨t,q⟩:=(show ∃ t,u=Value.float y t from rx);cases q;exact PySem.W.kia_one PySem.W.kitx_float I.kIn True.intro e (fun z=>nomatch z) h
 | @lst a xs ea =>
   cases (show u=Value.ref a from rx)
   obtain ⟨_,_,n,_,h1⟩:=(show qat X.prog X.w H s.heap a (.lst xs) from I.hok a _ ea)
   exact PySem.W.kia_one PySem.W.kitx_list I.kIn ⟨_,h1,rfl⟩ e (fun z=>nomatch z) h
 | @frz a ob xs ea =>
   cases (show u=Value.ref a from rx)
   obtain ⟨_,_,_,n,_,h1⟩:=(show qat X.prog X.w H s.heap a (.frz ob (.lst xs)) from I.hok a _ ea)
   exact PySem.W.kia_one PySem.W.kitx_list I.kIn ⟨_,h1,rfl⟩ e (fun z=>nomatch z) h
 | @tup a xs ea =>
   cases (show u=Value.ref a from rx)
   obtain ⟨_,_,_,p⟩:=(show qat X.prog X.w H s.heap a (.tup xs) from I.hok a _ ea)
   obtain ⟨o,h1,h2,_⟩:=p
   exact PySem.W.kia_one PySem.W.kitx_tuple I.kIn ⟨o,h1,h2⟩ e (fun z=>nomatch z) h
 | @dK a kvs ea =>
   cases (show u=Value.ref a from rx)
   obtain ⟨_,_,vs,_,p⟩:=(show qat X.prog X.w H s.heap a (.dK kvs) from I.hok a _ ea)
   obtain ⟨o,es,ep,h1,h2,_⟩:=p
   exact PySem.W.kia_one PySem.W.kitx_dict I.kIn ⟨o,h1,h2.1⟩ e (fun z=>nomatch z) h
 | @dT a kvs ea =>
   cases (show u=Value.ref a from rx)
   obtain ⟨_,_,xs,_,o,es,ep,h1,h2,_⟩:=(show qat X.prog X.w H s.heap a (.dT kvs) from I.hok a _ ea)
   exact PySem.W.kia_one PySem.W.kitx_dict I.kIn ⟨o,h1,h2.1⟩ e (fun z=>nomatch z) h
 | @ins a C dx fs ea cl ha hn htk hm =>
   cases (show u=Value.ref a from rx)
   obtain ⟨mA,O,_⟩:=q15 I.hok ea
   obtain ⟨od,J,_⟩:=O.look
   exact PySem.W.kia_one (PySem.W.kitx_own (cl.get _) cl.hd ha hn htk hm) I.kIn J e (fun z=>nomatch z) h
end
structure qct (k:Nat) (A:Around):Prop where
 hd:A.handled=none
 dp:A.depth+3 * k+5 < recursionLimit
 un:A.units+16 * k+200 < cLine
theorem qct.mono {j k:Nat} {A:Around} (r:qct k A) (h:j≤k):qct j A:=⟨r.hd,by have:=r.dp;omega,by have:=r.un;omega⟩
theorem qct.deeper {k:Nat} {A:Around} (r:qct (k+1) A) (env:Env):qct k (A.deeper env) :=
 ⟨r.hd,by have:=r.dp;show A.depth+1+3 * k+5 < _;omega,by have:=r.un;show A.units+3+16 * k+200 < _;omega⟩
theorem qct.depth {k:Nat} {A:Around} (r:qct k A):A.depth < recursionLimit:=by have:=r.dp;omega
theorem qct.units {k:Nat} {A:Around} (r:qct k A):A.units+64 < cLine:=by have:=r.un;omega
noncomputable def q9y:TA:=fun _ H Q=>Q [] H
noncomputable def q9z (ta:TE) (tr:TA):TA:=fun σ H Q=>ta σ H fun x H1=>tr σ H1 fun xs H2=>Q (x::xs) H2
section
variable {X:Cx} {e:Expr} {es:List Expr} {te:TE} {t:TA} {pos:Pos}
theorem qh8:PA X [] q9y:=fun _ _ _ _ H Q I h=>Calls.spliced_nil ⟨[],H,I,.nil,h⟩
theorem qcu (ha:PE X e te) (hr:PA X es t) (hs:starEach (e::es) X.env=(false,eval e X.env)::starEach es X.env:=by rfl):PA X (e::es) (q9z te t):=by
 intro pos pins s σ H Q I h
 rw[hs]
 show wpAny _ _ (spliced ((false,eval e X.env)::backTo pos (starEach es X.env))) _ _ s
 refine Calls.spliced_cons (thn (ha pins s σ H _ I h) fun u s1 ⟨x,H1,I1,r1,q1⟩=> ?_)
 exact thn (hr pos pins s1 σ H1 _ I1 q1) fun us s2 ⟨xs,H2,I2,r2,q2⟩=>⟨x::xs,H2,I2,.cons r1 r2,q2⟩
noncomputable def tTup (t:TA):TE:=fun σ H Q=>t σ H fun xs H1=>xs.length≤sizeLine∧∀ p,H1 p=none→Q (.ref p) (upd H1 p (.tup xs))
noncomputable def tLst (t:TA):TE:=fun σ H Q=>t σ H fun xs H1=>xs.length≤sizeLine∧∀ p,H1 p=none→Q (.ref p) (upd H1 p (.lst xs))
theorem q52 {x1} (h:PA X es t):PE X (.Tuple es x1 pos) (tTup t):=by
 intro pins s σ H Q I hq
 refine wpAny_Tuple_spliced (thn (h pos pins s σ H _ I hq) fun us s1 ⟨xs,H1,I1,r,z,q⟩=>⟨by rw[← r.length];exact z,?_⟩)
 have hf:H1 s1.heap.objs.size=none:=I1.hok.fresh (Nat.le_refl _)
 refine⟨.ref s1.heap.objs.size,upd H1 s1.heap.objs.size (.tup xs),I1.laid (t':=s1.toks) (fun b u e=>Heap.get?_push_of_some _ e) (Nat.le_refl _) ?_,rfl,q _ hf⟩
 exact⟨z,us,r,⟨_,Heap.get?_push_size _ rfl,rfl,_,rfl⟩⟩
theorem qyp (h:PA X es t):PE X (.List es pos) (tLst t):=by
 intro pins s σ H Q I hq
 refine wpAny_List_spliced (thn (h pos pins s σ H _ I hq) fun us s1 ⟨xs,H1,I1,r,z,q⟩=>⟨by rw[← r.length];exact z,?_⟩)
 have hf:H1 s1.heap.objs.size=none:=I1.hok.fresh (Nat.le_refl _)
 refine⟨.ref s1.heap.objs.size,upd H1 s1.heap.objs.size (.lst xs),I1.laid (t':=s1.toks) (fun b u e=>Heap.get?_push_of_some _ e) (Nat.le_refl _) ?_,rfl,q _ hf⟩
 exact⟨z,us,0,r,Heap.get?_push_size _ rfl⟩
end
noncomputable abbrev Sp:=List V→Hp→VK→XK→Prop
noncomputable abbrev CXT:=List Env→Hp→Shared→XK→Value→Shared→Prop
structure q16 (P:Program) (w:World) (K:PySem.W.Frag) (mg:Str→Option Value) (base:Heap) (A:Around) (outer:List Env) (s:Shared) (H:Hp):Prop where
 frames:A.frames=some outer
 mod:Mod K mg base
 bs:∀ b o,base.get? b=some o→s.heap.get? b=some o∧H b=none
 bsz:base.objs.size≤s.heap.objs.size
 funs:s.heap.FunFrames base outer
 frf:∀ b ∈ frs outer,H b=none
 hok:HOk P w H s.heap
 bare:AllBare s.gens
noncomputable def CE (outer:List Env) (P:Program) (w:World) (H:Hp) (s:Shared) (Q:VK) (u:Value) (s':Shared):Prop :=
 ∃ v H',s'.os=s.os∧AllBare s'.gens∧Un (frs outer) [] H H' s.heap s'.heap∧HOk P w H' s'.heap∧RelV v u∧Q v H'
noncomputable def CR (CX:CXT) (outer:List Env) (P:Program) (w:World) (H:Hp) (s:Shared) (Q:VK) (E:XK) (r:Result) (s':Shared):Prop :=
 match r with
 | .ok (.ret u)=>CE outer P w H s Q u s'
 | .ok _=>False
 | .error e=>CX outer H s E e s'
structure qef (P:Program) (w:World) (K:PySem.W.Frag) (mg:Str→Option Value) (base:Heap) (CX:CXT) (k:Nat) (f:Addr) (fd:FuncData) (ps:List Str) (sp:Sp):Prop where
 len:∀ vs H Q E,sp vs H Q E→vs.length=ps.length
 run:∀ (A:Around) (outer:List Env) (s:Shared) (H:Hp) (args:Args) (us:List Value) (vs:List V) (Q:VK) (E:XK),qct k A→q16 P w K mg base A outer s H→BindsTo s fd args (ps.zip us)→Vals vs us→sp vs H Q E →
   codeAny (model P w) A (.call (.ref f) args) (CR CX outer P w H s Q E) s
theorem qef.mono {P:Program} {w:World} {K:PySem.W.Frag} {mg:Str→Option Value} {base:Heap} {CX:CXT} {j k:Nat} {f:Addr} {fd:FuncData} {ps:List Str} {sp:Sp} (F:qef P w K mg base CX j f fd ps sp) (h:j≤k) :
   qef P w K mg base CX k f fd ps sp:=⟨F.len,fun A outer s H args us vs Q E hr=>F.run A outer s H args us vs Q E (hr.mono h)⟩
section
variable {X:Cx} {pins:List (Addr × Obj)} {σ:St} {H:Hp} {s s':Shared}
theorem Inv.env0 (I:Inv X pins σ H s):q16 X.prog X.w X.K X.mg X.base X.A X.stack s H :=
 ⟨I.ok.frames,I.ok.mod,I.bs,Nat.le_trans I.ok.bsz I.sz,I.stack,I.stkFree,I.hok,I.bare⟩
theorem Inv.after {Q:VK} {u:Value} (I:Inv X pins σ H s) (h:CE X.stack X.prog X.w H s Q u s'):EP X pins σ Q u s':=by
 obtain ⟨v,H',os,bare,un,hok,r,q⟩:=h
 obtain ⟨hh,g,d,t,os'⟩:=s'
 obtain rfl:os'=s.os:=os
 exact⟨v,H',I.call (h':=hh) (g':=g) (d':=d) (t':=t) (ch:=[]) un hok bare (fun b z=>absurd z (by simp)),r,q⟩
end
noncomputable def qyq (sp:Sp) (dvs:List V) (E:XK) (t:TA):TE:=fun σ H Q=>t σ H fun vs H1=>sp (vs++dvs) H1 Q E
noncomputable def Binds (K:PySem.W.Frag) (fd:FuncData) (ps:List Str) (ds:List Value):Prop :=
 ∀ (s:Shared) (us:List Value),K.In s.heap→(us++ds).length=ps.length→BindsTo s fd ⟨us,[]⟩ (ps.zip (us++ds))
theorem Binds.all {K:PySem.W.Frag} {fd:FuncData} {ps:List Str} (h:∀ us:List Value,us.length=ps.length→bindArgs fd ⟨us,[]⟩=pure (ps.zip us)):Binds K fd ps []:=fun s us _ hl=>by
 rw[List.append_nil]at hl ⊢
 exact .of_eq (h us hl)
noncomputable def Passes (CX:CXT) (X:Cx) (E:XK):Prop:=∀ (pins:List (Addr × Obj)) (σ:St) (H:Hp) (s:Shared) (e:Value) (s':Shared),Inv X pins σ H s→CX X.stack H s E e s'→X.xe e s'
section
variable {X:Cx} {CX:CXT} {k:Nat} {f C:Addr} {fd:FuncData} {ps:List Str} {sp:Sp} {dvs:List V} {ds:List Value} {E:XK} {x m:Str} {p pos apos:Pos} {e o:Expr} {es:List Expr} {ta:TE} {t:TA}
theorem qyr {pins:List (Addr × Obj)} {σ:St} {H:Hp} {s:Shared} {Q:VK} {us:List Value} {vs:List V} (F:qef X.prog X.w X.K X.mg X.base CX k f fd ps sp) (hr:qct k X.A) (hb:Binds X.K fd ps ds) (hd:Vals dvs ds) (hx:Passes CX X E)
   (I:Inv X pins σ H s) (r:Vals vs us) (h:sp (vs++dvs) H Q E):wpAny (model X.prog X.w) X.A (call (.ref f) us) (EP X pins σ Q) X.xe s:=by
 have r2:Vals (vs++dvs) (us++ds):=r.append hd
 have hl:(us++ds).length=ps.length:=by rw[← r2.length];exact F.len _ _ _ _ h
 refine wpAny_call (codeAny_mono (F.run X.A X.stack s H ⟨us,[]⟩ (us++ds) (vs++dvs) Q E hr I.env0 (hb s us I.kIn hl) r2 h) fun r s' hq=> ?_)
 cases r with
 | error e=>exact hx pins σ H s e s' I hq
 | ok fl =>
   cases fl with
   | ret u=>exact I.after hq
   | next=>exact False.elim hq
   | brk=>exact False.elim hq
   | cont=>exact False.elim hq
theorem qvl (F:qef X.prog X.w X.K X.mg X.base CX k f fd ps sp) (hr:qct k X.A) (hg:Gl X x) (hm:X.mg x=some (.ref f)) (hk:PySem.W.keepIn X.K (.ref f)=true) (hb:Binds X.K fd ps ds) (hd:Vals dvs ds) (hx:Passes CX X E)
   (ha:PA X (e::es) t) (hdb:(x==("__debug__":Str))=false:=by decide) (he:starEach (e::es) X.env=(false,eval e X.env)::starEach es X.env:=by rfl) (hpl:(backTo pos (starEach es X.env)).any (·.1)=false:=by rfl) :
   PE X (.Call (.Name x p) (e::es) [] pos) (qyq sp dvs E t):=by
 intro pins s σ H Q I h
 refine wpAny_Call_Name_kw (qvg I hg hm ?_ hdb)
 refine PySem.W.callWith_K (h₀:=X.base) I.ok.mod.kin hk (thn (ha pos pins s σ H _ I h) fun us s1 ⟨vs,H1,I1,r,q⟩=>⟨I1.kIn,?_⟩) he hpl
 exact qyr F hr hb hd hx I1 r q
theorem qys (F:qef X.prog X.w X.K X.mg X.base CX k f fd ps sp) (hr:qct k X.A) (hg:Gl X x) (hm:X.mg x=some (.ref f)) (hk:PySem.W.keepIn X.K (.ref f)=true) (hb:Binds X.K fd ps ds) (hd:Vals dvs ds) (hx:Passes CX X E)
   (hdb:(x==("__debug__":Str))=false:=by decide):PE X (.Call (.Name x p) [] [] pos) (qyq sp dvs E q9y):=by
 intro pins s σ H Q I h
 refine wpAny_Call_Name_kw (qvg I hg hm ?_ hdb)
 exact PySem.W.callWith_K0 I.kIn hk (qyr (us:=[]) F hr hb hd hx I .nil h)
end
section
variable {X:Cx} {CX:CXT} {k:Nat} {f C:Addr} {fd:FuncData} {ps ks:List Str} {sp:Sp} {E:XK} {x m:Str} {p pos apos kpos:Pos} {e o:Expr} {es:List Expr} {kws:List Keyword} {te ta:TE} {t tk:TA} {nm:Option Str}
variable {g:List Value→List Value→List Value} {gV:List V→List V→List V}
end
structure qcv (N P:List Str) (sc:Scope):Prop where
 kind:sc.kind=.function
 co:sc.isCoroutine=false
 gen:sc.isGenerator=false
 nd:N.Nodup
 pre:N.take P.length=P
 par:∀ x ∈ P,sc.names.lookup x=some .local∨sc.names.lookup x=some .cell
 nofree:∀ y ∈ sc.names,y.2 ≠ .free
theorem qn9 {kindOf:Str→Option NameKind} {x:Str}:∀ {binds:List (Str × Value)} {m:Str→Option Value},(∀ v,(x,v) ∉ binds)→bindL kindOf binds m x=m x
 | [],_,_=>rfl
 | (n,v)::r,m,h=>by
   unfold bindL
   rw[qn9 fun w hw=>h w (List.mem_cons_of_mem _ hw)]
   split
   · have:x ≠ n:=by rintro rfl;exact h v List.mem_cons_self
     simp [this]
   · rfl
theorem qoa {kindOf:Str→Option NameKind} {x:Str}:∀ {binds:List (Str × Value)} {m:Str→Option Value},(∀ v,(x,v) ∉ binds)→bindC kindOf binds m x=m x
 | [],_,_=>rfl
 | (n,v)::r,m,h=>by
   unfold bindC
   rw[qoa fun w hw=>h w (List.mem_cons_of_mem _ hw)]
   split
   · rfl
   · have:x ≠ n:=by rintro rfl;exact h v List.mem_cons_self
     simp [this]
theorem qob {kindOf:Str→Option NameKind} {x:Str} {v:Value}:∀ {P:List Str} {vs:List Value} {i:Nat} {m:Str→Option Value},P.Nodup→P[i]? =some x→vs[i]? =some v→kindOf x=some .local →
   bindL kindOf (P.zip vs) m x=some v
 | [],_,_,_,_,h,_,_=>by simp at h
 | _::_,[],_,_,_,_,h,_=>by simp at h
 | p::P,w::vs,0,m,nd,h1,h2,hk=>by
   simp at h1 h2;subst h1;subst h2
   show bindL kindOf ((p,w)::P.zip vs) m p=_
   unfold bindL
   rw[qn9 fun v hv=>(List.nodup_cons.mp nd).1 (List.of_mem_zip hv).1,if_pos hk]
   simp
 | p::P,w::vs,i+1,m,nd,h1,h2,hk=>by
   show bindL kindOf ((p,w)::P.zip vs) m x=_
   unfold bindL
   exact qob (i:=i) (List.nodup_cons.mp nd).2 (by simpa using h1) (by simpa using h2) hk
theorem qoc {kindOf:Str→Option NameKind} {x:Str} {v:Value}:∀ {P:List Str} {vs:List Value} {i:Nat} {m:Str→Option Value},P.Nodup→P[i]? =some x→vs[i]? =some v→kindOf x ≠ some .local →
   bindC kindOf (P.zip vs) m x=some v
 | [],_,_,_,_,h,_,_=>by simp at h
 | _::_,[],_,_,_,_,h,_=>by simp at h
 | p::P,w::vs,0,m,nd,h1,h2,hk=>by
   simp at h1 h2;subst h1;subst h2
   show bindC kindOf ((p,w)::P.zip vs) m p=_
   unfold bindC
   rw[qoa fun v hv=>(List.nodup_cons.mp nd).1 (List.of_mem_zip hv).1,if_neg hk]
   simp
 | p::P,w::vs,i+1,m,nd,h1,h2,hk=>by
   show bindC kindOf ((p,w)::P.zip vs) m x=_
   unfold bindC
   exact qoc (i:=i) (List.nodup_cons.mp nd).2 (by simpa using h1) (by simpa using h2) hk
noncomputable def start (N:List Str) (vs:List V):St:=vs.map some++List.replicate (N.length - vs.length) none
noncomputable def qm3 (CX:CXT) (P:Program) (w:World) (K:PySem.W.Frag) (mg:Str→Option Value) (base:Heap) (N:List Str) (qual:Str) (scope:Scope) (f:Addr) (cd:Value) (A:Around) (outer:List Env) (s:Shared) (H:Hp) (E:XK):Cx where
 prog:=P
 w:=w
 K:=K
 mg:=mg
 base:=base
 A:=A.deeper (envOfC qual scope s.heap.objs.size f cd)
 N:=N
 s₀:=s
 H₀:=H
 env:=envOfC qual scope s.heap.objs.size f cd
 outer:=outer
 stack:=envOfC qual scope s.heap.objs.size f cd::outer
 ex:=[]
 calm:=true
 fn:=fun _=>true
 pn:=[]
 xe:=fun e s'=>wpAny (model P w) (A.deeper (envOfC qual scope s.heap.objs.size f cd)) (leaving (envOfC qual scope s.heap.objs.size f cd) e) (fun _ s''=>CX outer H s E e s'') (fun e' s''=>CX outer H s E e' s'') s'
theorem qrj {sc:Scope} {n:Nat} {x:Str} (h:sc.names.lookup x=some .cell):∃ c,(cellsFrom n sc.names []).lookup x=some c:=by
 have q:=PySem.W.cellsFrom_some sc.names n [] (.inl h)
 exact Option.isSome_iff_exists.mp q
theorem qw9 {CX:CXT} {P:Program} {w:World} {K:PySem.W.Frag} {mg:Str→Option Value} {base:Heap} {N ps:List Str} {qual:Str} {scope:Scope} {f:Addr} {cd:Value} {A:Around} {outer:List Env} {s s1:Shared} {H:Hp} {E:XK} {us:List Value} {vs:List V}
   (S:qcv N ps scope) (hd:A.handled=none) (e0:q16 P w K mg base A outer s H) (hl:vs.length=ps.length) (r:Vals vs us)
   (x:InCallC s s.heap.objs.size (bindL (envOfC qual scope s.heap.objs.size f cd).kindOf (ps.zip us) fun _=>none) (cellsFrom (s.heap.objs.size+1) scope.names []) (bindC (envOfC qual scope s.heap.objs.size f cd).kindOf (ps.zip us) fun _=>none) s1) :
   Inv (qm3 CX P w K mg base N qual scope f cd A outer s H E) [] (start N vs) H s1:=by
 have hpl:ps.length≤N.length:=by have:=congrArg List.length S.pre;rw[List.length_take]at this;omega
 obtain ⟨h1,tk,rfl,hk⟩:=x.done
 have noA:∀ b:Addr,b ∉ (qm3 CX P w K mg base N qual scope f cd A outer s H E).ex:=fun b z=>absurd (show b ∈ ([]:List Addr) from z) (by simp)
 refine⟨⟨e0.mod,S.kind,rfl,rfl,Nat.le_refl _,fun y z c h1 h2=> ?_,fun y hy=> ?_,fun y c _ h=> ?_,fun _=>hd,Around.frames_deeper e0.frames,.inr ⟨rfl,rfl⟩,fun b z=>absurd z (noA b),e0.bs,e0.bsz,fun b _ _=>noA b,fun b z=>absurd z (noA b),e0.funs,e0.frf⟩,
   rfl,e0.bare,Un.kept hk,⟨_,x.toInCall.ns,fun i y v h1 h2 h3=> ?_⟩,fun y c h=>⟨_,x.cell y c h⟩,e0.hok.fresh (Nat.le_refl _),fun y c h=> ?_,fun p hp=>absurd (show p ∈ ([]:List (Addr × Obj)) from hp) (by simp),e0.hok.kept hk,?_⟩
 · exact name_of_addr x.apart (PySem.mem_of_lookup h1) (PySem.mem_of_lookup h2)
 · have hy:scope.names.lookup y=some .cell∨scope.names.lookup y=some .free:=hy
   rcases hy with hy | hy
   · exact qrj hy
   · exact absurd rfl (S.nofree _ (PySem.mem_of_lookup hy))
 · exact Nat.le_of_lt (x.above y c (PySem.mem_of_lookup h))
 · have hi:i < vs.length:=by
     unfold start at h2
     by_cases hi:i < vs.length
     · exact hi
     · rw[List.getElem?_append_right (by simpa using hi)]at h2
       rw[List.getElem?_replicate]at h2
       split at h2 <;> cases h2
   have ha:vs[i]? =some v:=by
     unfold start at h2
     rw[List.getElem?_append_left (by simpa using hi),List.getElem?_map]at h2
     cases e:vs[i]? with
     | none=>rw[e]at h2;cases h2
     | some a=>rw[e]at h2;cases h2;rfl
   obtain ⟨u,hu,rv⟩:=r.get ha
   have hp:ps[i]? =some y:=by
     rw[← S.pre,List.getElem?_take_of_lt (by omega)];exact h1
   have ndP:ps.Nodup:=by rw[← S.pre];exact S.nd.sublist (List.take_sublist _ _)
   refine⟨u,rv,?_⟩
   rcases S.par y (List.mem_of_getElem? hp)with k | k
   · exact .inl ⟨k,qob ndP hp hu k⟩
   · obtain ⟨c,e⟩:=qrj (n:=s.heap.objs.size+1) k
     refine .inr ⟨.inl k,c,e,?_⟩
     have q:=x.cell y c e
     rw[qoc ndP hp hu (by show scope.names.lookup y ≠ _;rw[k];decide)]at q
     exact q
 · exact e0.hok.fresh (Nat.le_of_lt (x.above y c (PySem.mem_of_lookup h)))
 · unfold start
   show _=N.length
   rw[List.length_append,List.length_map,List.length_replicate]
   omega
theorem q90 {CX:CXT} {P:Program} {w:World} {K:PySem.W.Frag} {mg:Str→Option Value} {base:Heap} {k:Nat} {f:Addr} {name qual:Str} {params:Arguments} {body:List Stmt} {scope:Scope} {dV kV doc pm cdv ct oc:Value} {an od:Option Addr}
   {osl:Array (Option Value)} {N ps:List Str} {sp:Sp} (lk:K.lookup f=some ⟨oc,od,.func (PySem.W.fnOf name qual params body scope dV kV doc pm an cdv ct),osl⟩) (hcd:PySem.W.codeIn K cdv qual=true) (S:qcv N ps scope)
   (len:∀ vs H Q E,sp vs H Q E→vs.length=ps.length)
   (hbody:∀ (A:Around) (outer:List Env) (s:Shared) (H:Hp) (vs:List V) (Q:VK) (E:XK),qct k (A.deeper (envOfC qual scope s.heap.objs.size f cdv))→sp vs H Q E →
     ∃ t,PSs (qm3 CX P w K mg base N qual scope f cdv A outer s H E) body t∧t { nx:=fun _ H'=>Q .non H',rt:=Q } (start N vs) H) :
   qef P w K mg base CX (k+1) f (PySem.W.fnOf name qual params body scope dV kV doc pm an cdv ct) ps sp:=by
 refine⟨len,fun A outer s H args us vs Q E hr e0 hb r hsp=> ?_⟩
 have hl:=len _ _ _ _ hsp
 have KX:K.In s.heap:=e0.mod.kin.keeps fun b o e=>(e0.bs b o e).1
 have lim:s.heap.NoLimit:=e0.mod.nolimit.keeps fun b o e=>(e0.bs b o e).1
 have hkind:∀ y ∈ ps.zip us,scope.names.lookup y.1=some .local∨(scope.names.lookup y.1=some .cell∧((cellsFrom (s.heap.objs.size+1) scope.names []).lookup y.1).isSome=true):=fun ⟨n,v⟩ hy=>by
   rcases S.par n (List.of_mem_zip hy).1 with q | q
   · exact .inl q
   · exact .inr ⟨q,PySem.W.cellsFrom_some _ _ _ (.inl q)⟩
 refine codeAny_call_function hr.depth (KX _ _ lk) rfl S.co S.gen rfl (PySem.W.codeRec_of KX hcd) (hb _ _ _ _ ?_)
 refine wpAny_newFunctionEnv_cells S.kind hkind fun env he s1 x=> ?_
 subst he
 refine⟨lim.keeps x.toInCall.keep,codeAny_func ?_⟩
 obtain ⟨t,ht,hq⟩:=hbody A outer s H vs Q E (hr.deeper _) hsp
 have I:Inv (qm3 CX P w K mg base N qual scope f cdv A outer s H E) [] (start N vs) H s1:=qw9 S hr.hd e0 hl r x
 refine wpAny_mono (ht [] s1 (start N vs) H _ I hq) (fun fl s' hs=> ?_) fun e s' hs=>hs
 have fin:∀ {σ':St} {H':Hp} {v:V} {u:Value},Inv (qm3 CX P w K mg base N qual scope f cdv A outer s H E) [] σ' H' s'→RelV v u→Q v H'→CE outer P w H s Q u s' :=
   fun {σ' H' v u} J rv q=>⟨v,H',J.os,J.bare,J.base,J.hok,rv,q⟩
 cases fl with
 | ret u =>
   obtain ⟨v,σ',H',J,rv,q⟩:=hs
   exact fin J rv q
 | next =>
   obtain ⟨σ',H',J,q⟩:=hs
   exact fin (v:=V.non) (u:=Value.none) J rfl q
 | brk =>
   obtain ⟨_,_,_,q⟩:=hs
   exact False.elim q
 | cont =>
   obtain ⟨_,_,_,q⟩:=hs
   exact False.elim q
section
variable {X:Cx} {x:Str} {p pos:Pos} {e:Expr} {es:List Expr} {t:TA} {id T:String} {r:List V→Hp→VK→Prop}
noncomputable def tCB (r:List V→Hp→VK→Prop) (t:TA):TE:=fun σ H Q=>t σ H fun vs H1=>r vs H1 Q
theorem qrk (hc:qaj X (.builtin id) r) (hg:Gl X x) (hm:X.mg x=none) (hv:bootBuiltins x=some (.builtin id)) (ha:PA X (e::es) t) (hn:x ≠ "__name__":=by decide) (hdb:(x==("__debug__":Str))=false:=by decide)
   (he:starEach (e::es) X.env=(false,eval e X.env)::starEach es X.env:=by rfl) (hpl:(backTo pos (starEach es X.env)).any (·.1)=false:=by rfl):PE X (.Call (.Name x p) (e::es) [] pos) (tCB r t):=by
 intro pins s σ H Q I h
 refine wpAny_Call_Name_kw (qgf I hg hm hv ?_ hn hdb)
 exact PyProof.Rows.callWith_builtin1 (thn (ha pos pins s σ H _ I h) fun us s1 ⟨vs,H1,I1,r1,q1⟩=>hc pins s1 σ H1 vs us Q I1 r1 q1) he hpl
theorem qh9 (hc:qaj X (.type T) r) (hg:Gl X x) (hm:X.mg x=none) (hv:bootBuiltins x=some (.type T)) (ha:PA X (e::es) t) (hn:x ≠ "__name__":=by decide) (hdb:(x==("__debug__":Str))=false:=by decide)
   (he:starEach (e::es) X.env=(false,eval e X.env)::starEach es X.env:=by rfl) (hpl:(backTo pos (starEach es X.env)).any (·.1)=false:=by rfl):PE X (.Call (.Name x p) (e::es) [] pos) (tCB r t):=by
 intro pins s σ H Q I h
 refine wpAny_Call_Name_kw (qgf I hg hm hv ?_ hn hdb)
 exact PyProof.Rows.callWith_type1 (thn (ha pos pins s σ H _ I h) fun us s1 ⟨vs,H1,I1,r1,q1⟩=>hc pins s1 σ H1 vs us Q I1 r1 q1) he hpl
end
end L2
namespace HT
open PySem PyProof.Rows
section
open PySem.SeqAt
open PySem.AutoSeq1 (wpAny_loadPart')
open PySem.MeetsSeq PySem.MeetsSeq2 PySem.MeetsSeq3
end
section
variable {prog:Program} {w:World} {A:Around} {E:Value→Shared→Prop} {s:Shared}
theorem cat_tup {t b:Addr} {vs ws:List Value} {Q:Value→Shared→Prop} (ht:IsTup s.heap t vs.toArray) (hb:IsTup s.heap b ws.toArray) (hv:vs ≠ [])
   (h1:ws=[]→Q (.ref t) s) (h2:ws ≠ []→Q (.ref s.heap.objs.size) { s with heap:=s.heap.push { cls:=.type "tuple",data:=.seq (vs++ws).toArray } })
   (hsz:vs.length+ws.length≤sizeLine):wpAny (model prog w) A (binaryOp .Add (.ref t) (.ref b)) Q E s:=by
 obtain ⟨⟨cls,dd,data,sl⟩,ho,hc,n,hd⟩:=id ht
 obtain ⟨⟨cls2,dd2,data2,sl2⟩,ho2,hc2,n2,hd2⟩:=id hb
 simp only at hc hd hc2 hd2
 subst hc hd hc2 hd2
 have e:vs.toArray++ws.toArray=(vs++ws).toArray:=by simp
 by_cases hw:ws=[]
 · exact concat_meets ⟨_,ho,rfl⟩ ⟨_,ho2,rfl⟩ noFill_tuple_add seq_tuple_add PySem.F.slot_tuple_add PySem.F.entry_tuple_add (PySem.F.args_tuple_add_2 _ _)
     (tuple_addW1 t b vs.toArray ws.toArray n n2 dd dd2 sl sl2 (by simpa using hv) (by simp [hw])) ⟨ho,ho2,h1 hw⟩
 · refine concat_meets ⟨_,ho,rfl⟩ ⟨_,ho2,rfl⟩ noFill_tuple_add seq_tuple_add PySem.F.slot_tuple_add PySem.F.entry_tuple_add (PySem.F.args_tuple_add_2 _ _)
     (tuple_addW2 t b vs.toArray ws.toArray n n2 dd dd2 sl sl2 (by simpa using hv) (by simpa using hw) (by rw[List.size_toArray,List.size_toArray];exact hsz)) ⟨ho,ho2,?_⟩
   rw[e]
   exact h2 hw
noncomputable def sIx (n d:Nat):Option Int→Nat
 | none=>d
 | some v=>if v < 0 then (v+(n:Int)).toNat else min v.toNat n
theorem q53 (n d:Nat) (hd:d≤n) (o:Option Int):sIx n d o≤n:=by
 cases o with
 | none=>exact hd
 | some v =>
   show (if v < 0 then (v+(n:Int)).toNat else min v.toNat n)≤n
   by_cases hv:v < 0
   · rw[if_pos hv];omega
   · rw[if_neg hv];exact Nat.min_le_right _ _
theorem qvm (v:Int) (n d:Nat):(if v < 0 then max (v+(n:Int)) 0 else min v (n:Int))=((sIx n d (some v):Nat):Int):=by
 show (if v < 0 then max (v+(n:Int)) 0 else min v (n:Int))=(((if v < 0 then (v+(n:Int)).toNat else min v.toNat n):Nat):Int)
 by_cases hv:v < 0
 · simp only [if_pos hv];omega
 · simp only [if_neg hv];omega
theorem que (lo hi:Option Int) (n:Nat):Builtin.Slice.sliceAdjust lo hi 1 (n:Int)=(((sIx n 0 lo:Nat):Int),((sIx n n hi:Nat):Int)):=by
 have h1:¬ ((1:Int) < 0):=by omega
 unfold Builtin.Slice.sliceAdjust
 simp only [h1,if_false]
 refine Prod.ext ?_ ?_
 · cases lo with
   | none=>rfl
   | some v=>exact qvm v n 0
 · cases hi with
   | none=>rfl
   | some v=>exact qvm v n n
theorem quf (i j:Nat):Builtin.Slice.slicePlaces (i:Int) (j:Int) 1=j - i:=by
 unfold Builtin.Slice.slicePlaces
 have h1:(1:Int) > 0:=by omega
 simp only [h1,if_true,Int.ediv_one]
 split <;> omega
theorem qk1 {v:Value} {o:Option Int} {Q:Option Int→Shared→Prop} (p:IsPart v o) (h:Q o s):wpAny (model prog w) A (Builtin.Slice.slicePartIndex v) Q E s:=by
 cases p with
 | none=>exact slicePart_none h
 | int i t=>exact slicePart_int h
theorem qia {sl:Addr} {vl vu:Value} {lo hi:Option Int} {n:Nat} {Q:Int × Int × Nat→Shared→Prop} (hs:s.heap.IsSliceOf sl vl vu .none) (pl:IsPart vl lo) (pu:IsPart vu hi)
   (h:Q (((sIx n 0 lo:Nat):Int),1,sIx n n hi - sIx n 0 lo) s):wpAny (model prog w) A (Builtin.Slice.sliceApplied (.ref sl) (pure (n:Int))) Q E s:=by
 obtain ⟨os,hos,hcs,hds⟩:=id hs
 unfold Builtin.Slice.sliceApplied Builtin.Slice.sliceFields
 refine wpAny_bind (wpAny_bind (wpAny_field hos hds (x:=vl) rfl (wpAny_bind (wpAny_field hos hds (x:=vu) rfl (wpAny_bind (wpAny_field hos hds (x:=.none) rfl (wpAny_pure ?_)))))))
 refine wpAny_bind (slicePart_none ?_)
 show wpAny _ _ (if ((1:Int)==0)=true then _ else _) _ _ s
 rw[if_neg (by decide)]
 refine wpAny_bind (qk1 pl (wpAny_bind (qk1 pu (wpAny_bind (wpAny_pure ?_)))))
 show wpAny _ _ (match Builtin.Slice.sliceAdjust lo hi 1 (n:Int)with | (lo,hi)=>pure (lo,(1:Int),Builtin.Slice.slicePlaces lo hi 1)) _ _ s
 rw[que lo hi n]
 show wpAny _ _ (pure (((sIx n 0 lo:Nat):Int),(1:Int),Builtin.Slice.slicePlaces ((sIx n 0 lo:Nat):Int) ((sIx n n hi:Nat):Int) 1)) _ _ s
 rw[quf]
 exact wpAny_pure h
theorem qyt (xs:Array Value) (i k:Nat):((List.range k).filterMap fun (m:Nat)=>xs[((i:Int)+(m:Int) * 1).toNat]?).toArray=((xs.toList.drop i).take k).toArray:=by
 have e:(fun (m:Nat)=>xs[((i:Int)+(m:Int) * 1).toNat]?)=fun m=>xs[i+m]? :=by
   funext m
   have:((i:Int)+(m:Int) * 1).toNat=i+m:=by omega
   rw[this]
 rw[e]
 have:=pick_run xs i k
 rw[List.filterMap_map]at this
 have e2:((fun x=>xs[x]?) ∘ fun x=>i+x)=fun m=>xs[i+m]? :=rfl
 rw[e2]at this
 rw[this]
theorem getItem_tuple_cut {t sl:Addr} {items:Array Value} {vl vu:Value} {lo hi:Option Int} {Q:Value→Shared→Prop} (ht:IsTup s.heap t items) (hs:s.heap.IsSliceOf sl vl vu .none) (pl:IsPart vl lo) (pu:IsPart vu hi)
   (hw:¬ (sIx items.size 0 lo=0∧sIx items.size items.size hi=items.size))
   (h:Q (.ref s.heap.objs.size) { s with heap:=s.heap.push { cls:=.type "tuple",data:=.seq ((items.toList.drop (sIx items.size 0 lo)).take (sIx items.size items.size hi - sIx items.size 0 lo)).toArray } })
   (hsz:items.size≤sizeLine):wpAny (model prog w) A (getItem (.ref t) (.ref sl)) Q E s:=by
 have htake:sizeOk (.seq ((items.toList.drop (sIx items.size 0 lo)).take (sIx items.size items.size hi - sIx items.size 0 lo)).toArray):=by
   show ((items.toList.drop (sIx items.size 0 lo)).take (sIx items.size items.size hi - sIx items.size 0 lo)).toArray.size≤sizeLine
   rw[List.size_toArray,List.length_take,List.length_drop,Array.length_toList]
   omega
 have hj:sIx items.size items.size hi≤items.size:=q53 _ _ (Nat.le_refl _) hi
 obtain ⟨os,hos,hcs,hds⟩:=id hs
 have hTs:s.TypeIs (.ref sl) "slice":=⟨os,hos,hcs⟩
 unfold getItem
 try with_reducible refine wpAny_holding ?_
 first | refine wpAny_bind (wpAny_pure ?_) | skip
 refine wpAny_bind (wpAny_sequenceKey ht.typeIs (by decide) ?_)
 refine wpAny_bind (wpAny_callSpecial?_slot (name:=Str.ofString "__getitem__") ht.typeIs PyProof.Rows.slot_tuple_getitem
   (wpAny_call_entry PyProof.Rows.slot_tuple_getitem ht.typeIs entry_tuple_getitem ?_ (args_tuple_getitem _ _)))
 show wpAny _ _ (Builtin.Tuple.tupleItemsOf (.ref t) >>= _) _ _ s
 refine wpAny_bind (tupleItemsOf_ ht ?_)
 refine wpAny_bind (wpAny_typeOf hTs ?_)
 rw[if_pos (by decide)]
 refine wpAny_bind (qia hs pl pu ?_)
 have hno:¬ ((((sIx items.size 0 lo:Nat):Int)==0 && (1:Int)==1 && (sIx items.size items.size hi - sIx items.size 0 lo)==items.size)=true):=by
   intro q
   rw[Bool.and_eq_true,Bool.and_eq_true]at q
   have q1:((sIx items.size 0 lo:Nat):Int)=0:=eq_of_beq q.1.1
   have q2:sIx items.size items.size hi - sIx items.size 0 lo=items.size:=eq_of_beq q.2
   exact hw ⟨by omega,by omega⟩
 show wpAny _ _ (if (((sIx items.size 0 lo:Nat):Int)==0 && (1:Int)==1 && (sIx items.size items.size hi - sIx items.size 0 lo)==items.size)=true then _ else _) _ _ s
 rw[if_neg hno,qyt]
 first
   | exact wpAny_bind (m:=Builtin.Tuple.tupleExact _) (wpAny_newObj_type (wpAny_pure ⟨_,rfl,wpAny_pure h⟩) htake)
   | exact wpAny_bind (m:=Builtin.Tuple.tupleExact _) (wpAny_newObj_type (wpAny_bind (wpAny_pure (wpAny_pure ⟨_,rfl,wpAny_pure h⟩))) htake)
   | exact wpAny_bind (wpAny_bind (m:=Builtin.Tuple.tupleExact _) (wpAny_newObj_type (wpAny_pure (wpAny_pure ⟨_,rfl,wpAny_pure h⟩)) htake))
   | exact wpAny_bind (wpAny_bind (m:=Builtin.Tuple.tupleExact _) (wpAny_newObj_type (wpAny_pure ⟨_,rfl,wpAny_pure h⟩) htake))
end
end HT
namespace L2
open PySem PySem.Spec PyProof.Rows
noncomputable abbrev TO:=St→Hp→(Option Int→Hp→Prop)→Prop
noncomputable def PO (X:Cx) (e:Option Expr) (t:TO):Prop :=
 ∀ (pins:List (Addr × Obj)) (s:Shared) (σ:St) (H:Hp) (Q:Option Int→Hp→Prop),Inv X pins σ H s→t σ H Q →
   wpAny (model X.prog X.w) X.A (evalPart e X.env) (fun u s'=>∃ o H',Inv X pins σ H' s'∧IsPart u o∧Q o H') X.xe s
noncomputable def q17:TO:=fun _ H Q=>Q none H
noncomputable def q91 (t:TE):TO:=fun σ H Q=>t σ H fun x H1=>∃ i,x=.int i∧Q (some i) H1
section
variable {X:Cx} {e:Expr} {te:TE} {lo hi:Option Expr} {tl th:TO} {pos p2:Pos}
theorem qvn:PO X none q17:=by
 intro pins s σ H Q I h
 rw[evalPart_none]
 exact wpAny_pure ⟨none,H,I,.none,h⟩
theorem qvo (h:PE X e te):PO X (some e) (q91 te):=by
 intro pins s σ H Q I hw
 rw[evalPart_some]
 refine thn (h pins s σ H _ I hw) fun u s1 ⟨x,H1,I1,r1,q1⟩=> ?_
 obtain ⟨i,rfl,q⟩:=q1
 obtain ⟨t,rfl⟩:=r1
 exact⟨some i,H1,I1,.int i t,q⟩
noncomputable def SlR (X:Cx) (r:V→Option Int→Option Int→Hp→VK→Prop):Prop :=
 ∀ (pins:List (Addr × Obj)) (s:Shared) (σ:St) (H:Hp) (x:V) (v vl vu:Value) (lo hi:Option Int) (sl:Addr) (Q:VK),Inv X pins σ H s→RelV x v→s.heap.IsSliceOf sl vl vu .none→IsPart vl lo→IsPart vu hi→r x lo hi H Q →
   ∃ T id,typeLookup (.type T) "__getitem__"=pure (some (.builtin id))∧s.TypeIs v T∧wpAny (model X.prog X.w) X.A (getItem v (.ref sl)) (EP X pins σ Q) X.xe s
theorem SlR.or {r r':V→Option Int→Option Int→Hp→VK→Prop} (h:SlR X r) (h':SlR X r'):SlR X (fun x lo hi H Q=>r x lo hi H Q∨r' x lo hi H Q):=by
 intro pins s σ H x v vl vu lo hi sl Q I rx hs pl pu q
 rcases q with q | q
 · exact h pins s σ H x v vl vu lo hi sl Q I rx hs pl pu q
 · exact h' pins s σ H x v vl vu lo hi sl Q I rx hs pl pu q
noncomputable def tSl (r:V→Option Int→Option Int→Hp→VK→Prop) (te:TE) (tl th:TO):TE:=fun σ H Q=>te σ H fun x H1=>tl σ H1 fun l H2=>th σ H2 fun u H3=>r x l u H3 Q
theorem qrl {r:V→Option Int→Option Int→Hp→VK→Prop} (hr:SlR X r) (he:PE X e te) (hl:PO X lo tl) (hu:PO X hi th):PE X (.Subscript e (.Slice lo hi none p2) pos) (tSl r te tl th):=by
 intro pins s σ H Q I h
 refine Subscript_ (thn (he pins s σ H _ I h) fun v s1 ⟨x,H1,I1,r1,q1⟩=> ?_)
 refine wpAny_Slice (thn (hl pins s1 σ H1 _ I1 q1) fun vl s2 ⟨l,H2,I2,pl,q2⟩=>thn (hu pins s2 σ H2 _ I2 q2) fun vu s3 ⟨u,H3,I3,pu,q3⟩=> ?_)
 rw[evalPart_none]
 refine wpAny_pure ?_
 have I4:Inv X pins σ H3 { s3 with heap:=s3.heap.push { cls:=.type "slice",data:=.fields #[vl,vu,.none] } }:=I3.kept (t':=s3.toks) fun b ob q=>Heap.get?_push_of_some _ q
 obtain ⟨T,id,hT,ht,hg⟩:=hr pins { s3 with heap:=s3.heap.push { cls:=.type "slice",data:=.fields #[vl,vu,.none] } } σ H3 x v vl vu l u s3.heap.objs.size Q I4 r1 (Heap.IsSliceOf.new ..) pl pu q3
 show wpAny (model X.prog X.w) X.A (subscriptTail e (.Slice lo hi none p2) v (.ref s3.heap.objs.size)) (EP X pins σ Q) X.xe { s3 with heap:=s3.heap.push { cls:=.type "slice",data:=.fields #[vl,vu,.none] } }
 exact tail_any (ops:=[.ref s3.heap.objs.size,v]) ht hT hg (by with_unfolding_all rfl)
noncomputable def qj3 (xs:List V) (lo hi:Option Int):List V:=(xs.drop (HT.sIx xs.length 0 lo)).take (HT.sIx xs.length xs.length hi - HT.sIx xs.length 0 lo)
theorem qjk (xs:List V) (lo hi:Option Int):(qj3 xs lo hi).length≤xs.length:=by
 unfold qj3
 rw[List.length_take,List.length_drop]
 omega
noncomputable def rSlT (K:PySem.W.Frag):V→Option Int→Option Int→Hp→VK→Prop:=fun x lo hi H Q=>∃ a xs,x=.ref a∧SqT K H a xs ∧
 ¬ (HT.sIx xs.length 0 lo=0∧HT.sIx xs.length xs.length hi=xs.length)∧∀ p,H p=none→Q (.ref p) (upd H p (.tup (qj3 xs lo hi)))
theorem q54:SlR X (rSlT X.K):=by
 intro pins s σ H x v vl vu lo hi sl Q I rx hs pl pu h
 obtain ⟨a,xs,rfl,hx,hw,q⟩:=h
 cases rx
 obtain ⟨its,r,ht,hz⟩:=I.tuple hx
 have hlen:its.toArray.size=xs.length:=by rw[List.size_toArray];exact r.length.symm
 refine⟨"tuple",_,PyProof.Rows.slot_tuple_getitem.lookup,ht.typeIs,?_⟩
 refine HT.getItem_tuple_cut ht hs pl pu (by rw[hlen];exact hw) ?_ (by rw[hlen];exact hz)
 rw[hlen]
 refine⟨.ref s.heap.objs.size,_,I.laid (t':=s.toks) (o:=.tup (qj3 xs lo hi)) (fun b ob q=>Heap.get?_push_of_some _ q) (Nat.le_refl _) ?_,rfl,q _ (I.hok.fresh (Nat.le_refl _))⟩
 exact⟨Nat.le_trans (qjk xs lo hi) hz,_,(r.drop (HT.sIx xs.length 0 lo)).take (HT.sIx xs.length xs.length hi - HT.sIx xs.length 0 lo),IsTup.new _ _⟩
noncomputable def q92 (K:PySem.W.Frag):R2:=fun x y H Q=>∃ a b xs ys,x=.ref a∧y=.ref b∧SqT K H a xs∧SqT K H b ys∧xs ≠ []∧xs.length+ys.length≤sizeLine ∧
 (ys=[]→Q (.ref a) H)∧(ys ≠ []→∀ p,H p=none→Q (.ref p) (upd H p (.tup (xs++ys))))
theorem Vals.nil_iff {xs:List V} {us:List Value} (r:Vals xs us):us=[]↔xs=[]:=by
 cases r with
 | nil=>simp
 | cons _ _=>simp
theorem q18:OpR X (binaryOp .Add) (q92 X.K):=by
 intro pins s σ H x y v u Q I rx ry h
 obtain ⟨a,b,xs,ys,rfl,rfl,ha,hb,hx,hz,q1,q2⟩:=h
 cases rx
 cases ry
 obtain ⟨its,r1,p1,_⟩:=I.tuple ha
 obtain ⟨its2,r2,p2,_⟩:=I.tuple hb
 refine HT.cat_tup p1 p2 (fun z=>hx (r1.nil_iff.mp z)) (fun z=>⟨.ref a,H,I,rfl,q1 (r2.nil_iff.mp z)⟩) (fun z=> ?_) (by rw[← r1.length,← r2.length];exact hz)
 refine⟨.ref s.heap.objs.size,_,I.laid (t':=s.toks) (o:=.tup (xs++ys)) (fun b ob q=>Heap.get?_push_of_some _ q) (Nat.le_refl _) ?_,rfl,q2 (fun w=>z (r2.nil_iff.mpr w)) _ (I.hok.fresh (Nat.le_refl _))⟩
 exact⟨by rw[List.length_append];exact hz,_,r1.append r2,IsTup.new _ _⟩
end
noncomputable def ixN (n:Nat) (i:Int):Option Nat:=if 0≤i then (if i < n then some i.toNat else none)else if -(n:Int)≤i then some (i+n).toNat else none
noncomputable def atI {α:Type} (xs:List α) (i:Int):Option α:=(ixN xs.length i).bind fun j=>xs[j]?
theorem qvp {n:Nat} {i:Int} {j:Nat} (h:ixN n i=some j):seqIndex? i n=some j∧j < n∧ -(n:Int)≤i∧i < n:=by
 unfold ixN at h
 by_cases h0:0≤i
 · rw[if_pos h0]at h
   by_cases h1:i < n
   · rw[if_pos h1]at h
     have e:i.toNat=j:=Option.some.inj h
     exact⟨by rw[seqIndex_of h0 h1,e],by omega,by omega,h1⟩
   · rw[if_neg h1]at h;cases h
 · rw[if_neg h0]at h
   by_cases h1: -(n:Int)≤i
   · rw[if_pos h1]at h
     have e:(i+n).toNat=j:=Option.some.inj h
     exact⟨by rw[seqIndex_neg (by omega) h1,e],by omega,h1,by omega⟩
   · rw[if_neg h1]at h;cases h
theorem qkk {α:Type} {xs:List α} {i:Int} {v:α} (h:atI xs i=some v):∃ j,seqIndex? i xs.length=some j∧xs[j]? =some v∧j < xs.length∧ -(xs.length:Int)≤i∧i < xs.length:=by
 unfold atI at h
 cases e:ixN xs.length i with
 | none=>rw[e]at h;cases h
 | some j =>
   rw[e]at h
   obtain ⟨h1,h2,h3,h4⟩:=qvp e
   exact⟨j,h1,h,h2,h3,h4⟩
theorem qfx {α:Type} {xs:List α} {j:Nat} {v:α} (h:xs[j]? =some v):atI xs (j:Int)=some v:=by
 have hj:j < xs.length:=(List.getElem?_eq_some_iff.mp h).1
 have e:ixN xs.length (j:Int)=some j:=by
   unfold ixN
   rw[if_pos (by omega),if_pos (by omega)];simp
 unfold atI;rw[e];exact h
noncomputable def qph (b:Expr):Prop:=∀ o i,subscripted b false o i=operate [o,i] (getItem o i)
noncomputable def IxR (X:Cx) (r:R2):Prop :=
 ∀ (value slice:Expr) (pins:List (Addr × Obj)) (s:Shared) (σ:St) (H:Hp) (x y:V) (v u:Value) (Q:VK),Inv X pins σ H s→RelV x v→RelV y u→r x y H Q →
   subscripted slice false v u=operate [v,u] (getItem v u)→wpAny (model X.prog X.w) X.A (subscriptTail value slice v u) (EP X pins σ Q) X.xe s
noncomputable def MtR (X:Cx) (id:String) (r:V→List V→Hp→VK→Prop):Prop :=
 ∀ (pins:List (Addr × Obj)) (s:Shared) (σ:St) (H:Hp) (x:V) (xs:List V) (v:Value) (us:List Value) (Q:VK),Inv X pins σ H s→RelV x v→Vals xs us→r x xs H Q →
   wpAny (model X.prog X.w) X.A (call (.builtin id) (v::us)) (EP X pins σ Q) X.xe s
section
variable {X:Cx} {a b:Expr} {ta tb:TE} {pos:Pos}
theorem IxR.or {r r':R2} (h:IxR X r) (h':IxR X r'):IxR X (fun x y H Q=>r x y H Q∨r' x y H Q):=by
 intro value slice pins s σ H x y v u Q I rx ry q hs
 rcases q with q | q
 · exact h value slice pins s σ H x y v u Q I rx ry q hs
 · exact h' value slice pins s σ H x y v u Q I rx ry q hs
theorem q93 {r:R2} (hr:IxR X r) (ha:PE X a ta) (hb:PE X b tb) (hs:qph b):PE X (.Subscript a b pos) (tOp r ta tb):=by
 intro pins s σ H Q I h
 exact Subscript_ (q5s ha hb I h fun v u s2 x y H2 I2 rx ry q=>hr a b pins s2 σ H2 x y v u Q I2 rx ry q (hs _ _))
noncomputable def q55 (K:PySem.W.Frag):R2:=fun x y H Q=>∃ p xs i v,x=.ref p∧y=.int i∧SqL K H p xs∧atI xs i=some v∧Q v H
noncomputable def rIxT (K:PySem.W.Frag):R2:=fun x y H Q=>∃ p xs i v,x=.ref p∧y=.int i∧SqT K H p xs∧atI xs i=some v∧Q v H
noncomputable def rIxS:R2:=fun x y H Q=>∃ z i c,x=.str z∧y=.int i∧z.length≤sizeLine∧atI z.cps.toList i=some c∧Q (.str ⟨#[c]⟩) H
theorem q19:IxR X (q55 X.K):=by
 intro value slice pins s σ H x y v u Q I rx ry h hs
 obtain ⟨p,xs,i,z,rfl,rfl,hq,he,q⟩:=h
 cases rx
 obtain ⟨t,rfl⟩:=ry
 obtain ⟨its,r,pl,hz⟩:=I.list hq
 obtain ⟨j,h1,h2,h3,h4,h5⟩:=qkk he
 obtain ⟨w,ew,rw'⟩:=r.get h2
 have hl:=r.length
 have hn:=qe4
 have fin:EP X pins σ Q w s:=⟨z,H,I,rw',q⟩
 by_cases h0:0≤i
 · have hj:i.toNat=j:=by
     rw[seqIndex_of h0 h5]at h1
     exact Option.some.inj h1
   exact item_listR pl.isList h0 (by omega) (by rw[hj];simpa using ew) fin hs
 · have hj:(i+(its.toArray.size:Int)).toNat=j:=by
     rw[seqIndex_neg (by omega) h4]at h1
     rw[List.size_toArray,← hl]
     exact Option.some.inj h1
   exact subscriptTail_builtinR (x:=w) pl.isList.typeIs slot_list_getitem.lookup
     (wpAny_getItem_list_neg (Q:=fun r s'=>r=w∧EP X pins σ Q r s') pl.isList (by omega) (by rw[List.size_toArray] <;> omega) (by omega) (by rw[hj];simpa using ew) ⟨rfl,fin⟩) hs
theorem qyu:IxR X (rIxT X.K):=by
 intro value slice pins s σ H x y v u Q I rx ry h hs
 obtain ⟨p,xs,i,z,rfl,rfl,hq,he,q⟩:=h
 cases rx
 obtain ⟨t,rfl⟩:=ry
 obtain ⟨its,r,pl,hz⟩:=I.tuple hq
 obtain ⟨j,h1,h2,h3,h4,h5⟩:=qkk he
 obtain ⟨w,ew,rw'⟩:=r.get h2
 have hl:=r.length
 have hn:=qe4
 have fin:EP X pins σ Q w s:=⟨z,H,I,rw',q⟩
 exact subscriptTail_builtinR (x:=w) pl.typeIs slot_tuple_getitem.lookup
   (getItem_tuple (j:=j) (Q:=fun r s'=>r=w∧EP X pins σ Q r s') pl (by omega) (by omega) (by rw[List.size_toArray,← hl];exact h1) (by simpa using ew) ⟨rfl,fin⟩) hs
theorem q56:IxR X rIxS:=by
 intro value slice pins s σ H x y v u Q I rx ry h hs
 obtain ⟨z,i,c,rfl,rfl,hz,he,q⟩:=h
 obtain ⟨t,rfl⟩:=rx
 obtain ⟨t',rfl⟩:=ry
 obtain ⟨j,h1,h2,h3,h4,h5⟩:=qkk he
 have hl:z.cps.toList.length=z.length:=by simp [Str.length]
 rw[hl]at h1 h4 h5
 have hn:=qe4
 exact tail_any (typeIs_str s z t) slot_str_getitem.lookup (getItem_str (c:=c) (by
   have e1:decide (i < -(2 ^ 63:Int))=false:=decide_eq_false (by omega)
   have e2:decide (i ≥ 2 ^ 63)=false:=decide_eq_false (by omega)
   rw[e1,e2,Bool.or_false]) (by rw[h1];simpa using h2) ⟨.str ⟨#[c]⟩,H,I.tok _,⟨_,rfl⟩,q⟩) hs
theorem qug (its:List Value) (n j:Nat) (u:Value):Obj.mapSeq (·.setIfInBounds j u) { cls:=.type "list",data:=.seq its.toArray n }={ cls:=.type "list",data:=.seq (its.set j u).toArray n }:=by
 simp [Obj.mapSeq]
theorem Inv.lst {pins:List (Addr × Obj)} {σ:St} {H:Hp} {s:Shared} {p:Addr} {xs:List V} (I:Inv X pins σ H s) (h:H p=some (.lst xs)) :
   ∃ (its:List Value) (n:Nat),Vals xs its∧s.heap.get? p=some { cls:=.type "list",data:=.seq its.toArray n }∧xs.length≤sizeLine:=by
 obtain ⟨z,its,n,r,e⟩:=I.hok p _ h
 exact⟨its,n,r,e,z⟩
theorem Inv.lstUpd {pins:List (Addr × Obj)} {σ:St} {H:Hp} {s:Shared} {p:Addr} {xs ys:List V} {its its':List Value} {n n':Nat} {f:Obj→Obj} (I:Inv X pins σ H s) (h:H p=some (.lst xs))
   (ho:s.heap.get? p=some { cls:=.type "list",data:=.seq its.toArray n }) (hf:f { cls:=.type "list",data:=.seq its.toArray n }={ cls:=.type "list",data:=.seq its'.toArray n' }) (r:Vals ys its') (hz:ys.length≤sizeLine) (t:Nat) :
   Inv X pins σ (upd H p (.lst ys)) { s with heap:=s.heap.update p f,toks:=t }:=by
 have e:(s.heap.update p f).get? p=some { cls:=.type "list",data:=.seq its'.toArray n' }:=by
   rw[Heap.get?_update_self f ho (by rw[hf] <;> rfl),hf]
 refine I.write (x:=p) (e:=p) (by rw[h];trivial) (.inl rfl) (fun b u hb q=>(Heap.get?_update_other _ _ (Ne.symm hb)).trans q) ⟨_,e⟩ ?_
 exact⟨hz,its',n',r,e⟩
noncomputable def q4j:V→V→V→Hp→(Hp→Prop)→Prop:=fun o i v H Q=>∃ p xs k j,o=.ref p∧i=.int k∧H p=some (.lst xs)∧ixN xs.length k=some j∧Q (upd H p (.lst (xs.set j v)))
theorem set_list:qm2 X q4j:=by
 intro pins s σ H o i v ov iv u Q I ro ri rv h
 obtain ⟨p,xs,k,j,rfl,rfl,hp,hj,q⟩:=h
 cases ro
 obtain ⟨t,rfl⟩:=ri
 obtain ⟨its,n,r,ho,hz⟩:=I.lst hp
 obtain ⟨h1,h2,h3,h4⟩:=qvp hj
 have hl:=r.length
 have hn:=qe4
 have I':Inv X pins σ (upd H p (.lst (xs.set j v))) { s with heap:=s.heap.update p (Obj.mapSeq (·.setIfInBounds j u)) } :=
   I.lstUpd hp ho (qug its n j u) (r.set rv j) (by rw[List.length_set];exact hz) s.toks
 by_cases h0:0≤k
 · have hk:k.toNat=j:=by
     rw[seqIndex_of h0 h4]at h1
     exact Option.some.inj h1
   exact PySem.W.ki_setAt ho h0 (by omega) (by rw[List.size_toArray,← hl];exact h4) (by rw[hk];exact⟨_,I',q⟩)
 · have hk:(k+(its.toArray.size:Int)).toNat=j:=by
     rw[seqIndex_neg (by omega) h3]at h1
     rw[List.size_toArray,← hl]
     exact Option.some.inj h1
   exact PySem.W.ki_setBack ho (by omega) (by rw[List.size_toArray,← hl];exact h3) (by omega) (by rw[hk];exact⟨_,I',q⟩)
theorem qpi (lo hi:Option Int) (n:Nat):(sliceBounds lo hi none n).1=((HT.sIx n 0 lo:Nat):Int)∧(sliceBounds lo hi none n).2.1=((HT.sIx n n hi:Nat):Int)∧(sliceBounds lo hi none n).2.2=1:=by
 refine⟨?_,?_,rfl⟩
 · cases lo with
   | none=>simp [sliceBounds,HT.sIx]
   | some i =>
     simp only [sliceBounds,HT.sIx,Option.getD_none,show (1:Int) > 0 by decide,if_true]
     by_cases h:i < 0
     · simp only [h,if_true] <;> omega
     · simp only [h,if_false] <;> omega
 · cases hi with
   | none=>simp [sliceBounds,HT.sIx]
   | some i =>
     simp only [sliceBounds,HT.sIx,Option.getD_none,show (1:Int) > 0 by decide,if_true]
     by_cases h:i < 0
     · simp only [h,if_true] <;> omega
     · simp only [h,if_false] <;> omega
theorem qm4 (its:List Value) (lo hi:Option Int):slicePick its.toArray lo hi none=((its.drop (HT.sIx its.length 0 lo)).take (HT.sIx its.length its.length hi - HT.sIx its.length 0 lo)).toArray:=by
 obtain ⟨h1,h2,h3⟩:=qpi lo hi its.toArray.size
 unfold slicePick
 rw[h1,h2,h3]
 simp only [sliceRange_one,pick_run,List.size_toArray] <;> rfl
noncomputable def q94 (K:PySem.W.Frag):V→Option Int→Option Int→Hp→VK→Prop:=fun x lo hi H Q=>∃ a xs,x=.ref a∧SqL K H a xs∧∀ p,H p=none→Q (.ref p) (upd H p (.lst (qj3 xs lo hi)))
theorem qvq:SlR X (q94 X.K):=by
 intro pins s σ H x v vl vu lo hi sl Q I rx hs pl pu h
 obtain ⟨a,xs,rfl,hx,q⟩:=h
 cases rx
 obtain ⟨its,r,ht,hz⟩:=I.list hx
 have hlen:=r.length
 refine⟨"list",_,slot_list_getitem.lookup,ht.isList.typeIs,?_⟩
 refine wpAny_getItem_list_slice ht.isList hs pl pu .none (by simp) ?_ (by rw[List.size_toArray] <;> omega)
 rw[qm4,← hlen]
 refine⟨.ref s.heap.objs.size,_,I.laid (t':=s.toks) (o:=.lst (qj3 xs lo hi)) (fun b ob q=>Heap.get?_push_of_some _ q) (Nat.le_refl _) ?_,rfl,q _ (I.hok.fresh (Nat.le_refl _))⟩
 exact⟨Nat.le_trans (qjk xs lo hi) hz,_,0,(r.drop (HT.sIx xs.length 0 lo)).take (HT.sIx xs.length xs.length hi - HT.sIx xs.length 0 lo),Heap.get?_push_size _ rfl⟩
noncomputable def qod:V→Bool
 | .non=>true
 | .bl _=>true
 | .int _=>true
 | .str _=>true
 | _=>false
noncomputable def eqV:V→V→Bool
 | .non,.non=>true
 | .bl a,.bl b=>a==b
 | .bl a,.int b=>(if a then 1 else 0)==b
 | .int a,.bl b=>a==(if b then 1 else 0)
 | .int a,.int b=>a==b
 | .str a,.str b=>a==b
 | _,_=>false
theorem q57 {A:Around} {s:Shared} {y x:V} {u v:Value} (ry:RelV y u) (rx:RelV x v) (fy:qod y=true) (fx:qod x=true):SeqAt.EqAt A s u v (eqV y x):=by
 cases y with
 | non =>
   cases ry
   cases x with
   | non=>cases rx;exact SeqAt.EqAt.same _
   | bl b=>cases rx;exact SeqAt.EqAt.none_bool b
   | int b=>obtain ⟨t,rfl⟩:=rx;exact SeqAt.EqAt.none_int b t
   | str b=>obtain ⟨t,rfl⟩:=rx;exact SeqAt.EqAt.none_str b t
   | _=>exact absurd (show false=true from fx) Bool.false_ne_true
 | bl a =>
   cases ry
   cases x with
   | non=>cases rx;exact SeqAt.EqAt.bool_none a
   | bl b=>cases rx;exact SeqAt.EqAt.bool_bool a b
   | int b=>obtain ⟨t,rfl⟩:=rx;exact SeqAt.EqAt.bool_int a b t
   | str b=>obtain ⟨t,rfl⟩:=rx;exact SeqAt.EqAt.bool_str a b t
   | _=>exact absurd (show false=true from fx) Bool.false_ne_true
 | int a =>
   obtain ⟨t',rfl⟩:=ry
   cases x with
   | non=>cases rx;exact SeqAt.EqAt.int_none a t'
   | bl b=>cases rx;exact SeqAt.EqAt.int_bool a t' b
   | int b=>obtain ⟨t,rfl⟩:=rx;exact SeqAt.EqAt.int_int a t' b t
   | str b=>obtain ⟨t,rfl⟩:=rx;exact SeqAt.EqAt.int_str a t' b t
   | _=>exact absurd (show false=true from fx) Bool.false_ne_true
 | str a =>
   obtain ⟨t',rfl⟩:=ry
   cases x with
   | non=>cases rx;exact SeqAt.EqAt.str_none a t'
   | bl b=>cases rx;exact SeqAt.EqAt.str_bool a t' b
   | int b=>obtain ⟨t,rfl⟩:=rx;exact SeqAt.EqAt.str_int a t' b t
   | str b=>obtain ⟨t,rfl⟩:=rx;exact SeqAt.EqAt.str_str a t' b t
   | _=>exact absurd (show false=true from fx) Bool.false_ne_true
 | _=>exact absurd (show false=true from fy) Bool.false_ne_true
theorem qpj:qaj X (.builtin "len") (fun xs H Q=>∃ p ys,xs=[.ref p]∧(SqL X.K H p ys∨SqT X.K H p ys)∧Q (.int ys.length) H):=by
 intro pins s σ H xs us Q I r h
 obtain ⟨p,ys,rfl,hq,q⟩:=h
 obtain ⟨u,rfl,rx⟩:=vals1 r
 cases rx
 have hn:=qe4
 rcases hq with hq | hq
 · obtain ⟨its,r',pl,hz⟩:=I.list hq
   have hlen:=r'.length
   exact Calls.call_len_list pl.isList (by simp only [List.size_toArray] <;> omega) ⟨.int ys.length,H,I.tok _,⟨s.toks+1,by rw[List.size_toArray,hlen]⟩,q⟩
 · obtain ⟨its,r',pl,hz⟩:=I.tuple hq
   have hlen:=r'.length
   exact len_tuple pl (by simp only [List.size_toArray] <;> omega) ⟨.int ys.length,H,I.tok _,⟨s.toks+1,by rw[List.size_toArray,hlen]⟩,q⟩
theorem qpk:qaj X (.builtin "len") (fun xs H Q=>∃ z,xs=[.str z]∧z.length≤sizeLine∧Q (.int z.length) H):=by
 intro pins s σ H xs us Q I r h
 obtain ⟨z,rfl,hz,q⟩:=h
 obtain ⟨u,rfl,t,rfl⟩:=vals1 r
 have hn:=qe4
 exact len_str (by omega) ⟨.int z.length,H,I.tok _,⟨_,rfl⟩,q⟩
theorem qaj.or {f:Value} {r r':List V→Hp→VK→Prop} (h:qaj X f r) (h':qaj X f r'):qaj X f (fun xs H Q=>r xs H Q∨r' xs H Q):=by
 intro pins s σ H xs us Q I rs q
 rcases q with q | q
 · exact h pins s σ H xs us Q I rs q
 · exact h' pins s σ H xs us Q I rs q
theorem qhc:qaj X (.type "list") (fun xs H Q=>∃ p ys,xs=[.ref p]∧(SqL X.K H p ys∨SqT X.K H p ys)∧∀ l,H l=none→Q (.ref l) (upd H l (.lst ys))):=by
 intro pins s σ H xs us Q I r h
 obtain ⟨p,ys,rfl,hq,q⟩:=h
 obtain ⟨u,rfl,rx⟩:=vals1 r
 cases rx
 have fin:∀ (its:List Value),Vals ys its→ys.length≤sizeLine→∀ (h':Heap) (c':Nat),(∀ b o',s.heap.get? b=some o'→h'.get? b=some o') →
     h'.get? s.heap.objs.size=some { cls:=.type "list",dict:=none,data:=.seq its.toArray c',slots:= #[] }→EP X pins σ Q (.ref s.heap.objs.size) { s with heap:=h' }:=fun its r' hz h' c' kp e =>
   ⟨.ref s.heap.objs.size,_,I.laid (t':=s.toks) kp (Nat.le_refl _) (show qat X.prog X.w _ h' _ (.lst ys) from ⟨hz,its,c',r',e⟩),rfl,q _ (I.hok.fresh (Nat.le_refl _))⟩
 rcases hq with hq | hq
 · obtain ⟨its,r',pl,hz⟩:=I.list hq
   have hlen:=r'.length
   obtain ⟨o,ho,hc,n,hd⟩:=pl.isList
   exact call_list_seq p (.inl rfl) ho hc hd (fun h' c' kp e=>fin its r' hz h' c' kp e) (by simp only [List.size_toArray] <;> omega)
 · obtain ⟨its,r',pl,hz⟩:=I.tuple hq
   have hlen:=r'.length
   obtain ⟨o,ho,hc,n,hd⟩:=pl
   exact call_list_seq p (.inr rfl) ho hc hd (fun h' c' kp e=>fin its r' hz h' c' kp e) (by simp only [List.size_toArray] <;> omega)
theorem qm5:qaj X (.type "tuple") (fun xs H Q=>∃ p ys,xs=[.ref p]∧((SqL X.K H p ys∧∀ l,H l=none→Q (.ref l) (upd H l (.tup ys)))∨(SqT X.K H p ys∧Q (.ref p) H))):=by
 intro pins s σ H xs us Q I r h
 obtain ⟨p,ys,rfl,h⟩:=h
 obtain ⟨u,rfl,rx⟩:=vals1 r
 cases rx
 rcases h with ⟨hq,q⟩ | ⟨hq,q⟩
 · obtain ⟨its,r',pl,hz⟩:=I.list hq
   have hlen:=r'.length
   refine call_tuple_list pl.isList (fun h' kp=> ?_) (by simp only [List.size_toArray] <;> omega)
   have I1:Inv X pins σ H { s with heap:=h' }:=I.kept (t':=s.toks) kp
   have I2:Inv X pins σ (upd H h'.objs.size (.tup ys)) { s with heap:=h'.push { cls:=.type "tuple",data:=.seq its.toArray } } :=
     I1.laid (t':=s.toks) (fun b o e=>Heap.get?_push_of_some _ e) (Nat.le_refl _) (show qat X.prog X.w _ _ _ (.tup ys) from ⟨hz,its,r',IsTup.new _ _⟩)
   exact⟨.ref h'.objs.size,_,I2,rfl,q _ (I1.hok.fresh (Nat.le_refl _))⟩
 · obtain ⟨its,r',pl,hz⟩:=I.tuple hq
   exact call_tuple_same pl ⟨.ref p,H,I,rfl,q⟩
noncomputable def tyV (K:PySem.W.Frag) (T:String) (x:V) (H:Hp):Prop:=match x with
 | .str _=>T="str"
 | .int _=>T="int"
 | .ref p=>(T="list"∧∃ xs,SqL K H p xs)∨(T="tuple"∧∃ o,K.lookup p=some o∧o.cls=.type "tuple"∧o.dict=none) ∨
     (T="dict"∧((∃ kvs,H p=some (.dK kvs))∨∃ kvs,H p=some (.dT kvs)))∨(T="set"∧∃ S n,H p=some (.set S n))
 | _=>False
theorem qyv {pins:List (Addr × Obj)} {σ:St} {H:Hp} {s:Shared} {T:String} {x:V} {v:Value} (I:Inv X pins σ H s) (r:RelV x v) (ty:tyV X.K T x H) :
   s.TypeIs v T∧∀ a,v=.ref a→∃ ob,s.heap.get? a=some ob∧ob.dict=none:=by
 cases x with
 | str z =>
   obtain ⟨t,rfl⟩:=r
   cases (show T="str" from ty)
   exact⟨typeIs_str s z t,fun _ e=>nomatch e⟩
 | int i =>
   obtain ⟨t,rfl⟩:=r
   cases (show T="int" from ty)
   exact⟨typeIs_int s i t,fun _ e=>nomatch e⟩
 | ref p =>
   cases r
   rcases ty with ⟨rfl,xs,hq⟩ | ⟨rfl,o,hk,hc,hd⟩ | ⟨rfl,hk⟩ | ⟨rfl,S,n,hk⟩
   · obtain ⟨its,_,pl,_⟩:=I.list hq
     refine⟨pl.isList.typeIs,fun a e=> ?_⟩
     cases e
     obtain ⟨o,n,e,c,hd,_⟩:=pl
     exact⟨o,e,hd⟩
   · refine⟨⟨o,I.kIn p o hk,hc⟩,fun a e=> ?_⟩
     cases e
     exact⟨o,I.kIn _ o hk,hd⟩
   · have z:∃ o,s.heap.get? p=some o∧o.ExactDict:=by
       rcases hk with ⟨kvs,hk⟩ | ⟨kvs,hk⟩
       · obtain ⟨_,_,_,_,o,_,_,e,ex,_⟩:=I.hok p _ hk
         exact⟨o,e,ex⟩
       · obtain ⟨_,_,_,_,o,_,_,e,ex,_⟩:=I.hok p _ hk
         exact⟨o,e,ex⟩
     obtain ⟨o,e,ex⟩:=z
     refine⟨⟨o,e,ex.1⟩,fun a e2=> ?_⟩
     cases e2
     exact⟨o,e,ex.2.1⟩
   · obtain ⟨o,_,_,_,e,ex,_⟩:=I.hok p _ hk
     refine⟨⟨o,e,ex.1⟩,fun a e2=> ?_⟩
     cases e2
     exact⟨o,e,ex.2.1⟩
 | _=>exact False.elim ty
noncomputable def tBM0 (K:PySem.W.Frag) (T:String) (r:V→List V→Hp→VK→Prop) (to:TE):TE:=fun σ H Q=>to σ H fun x H1=>tyV K T x H1∧r x [] H1 Q
noncomputable def tBM (K:PySem.W.Frag) (T:String) (r:V→List V→Hp→VK→Prop) (to:TE) (t:TA):TE:=fun σ H Q=>to σ H fun x H1=>tyV K T x H1∧t σ H1 fun xs H2=>r x xs H2 Q
variable {o e:Expr} {es:List Expr} {to:TE} {t:TA} {name:Str} {apos cpos:Pos} {T id:String} {r:V→List V→Hp→VK→Prop}
theorem q58 (pa:PlainAttrs T) (slot:Slot T name id) (hty:typeOf (.builtin id)=pure (.type "method_descriptor")) (hm:MtR X id r) (ho:PE X o to)
   (hbase:attributeBase o name X.env (eval o X.env)=eval o X.env:=by rfl) (hline:(apos.endLine==cpos.line)=true:=by rfl):PE X (.Call (.Attribute o name apos) [] [] cpos) (tBM0 X.K T r to):=by
 intro pins s σ H Q I h
 refine wpAny_Call_method0_late hbase hline (thn (ho pins s σ H _ I h) fun v s1 ⟨x,H1,I1,r1,ty,q1⟩=> ?_)
 obtain ⟨h1,h2⟩:=qyv I1 r1 ty
 exact⟨T,id,pa,slot,hty,h1,h2,Calls.callWith_builtin rfl (PySem.evalArgs_none (hm pins s1 σ H1 x [] v [] Q I1 r1 .nil q1))⟩
theorem q95 (pa:PlainAttrs T) (slot:Slot T name id) (hty:typeOf (.builtin id)=pure (.type "method_descriptor")) (hm:MtR X id r) (ho:PE X o to) (ha:PA X (e::es) t)
   (hbase:attributeBase o name X.env (eval o X.env)=eval o X.env:=by rfl)
   (hfew:((backTo cpos (starEach (e::es) X.env)).all (fun x=> !x.1) && (backToKw cpos (keywordEach [] X.env)).all (fun x=>x.1.isSome)
     && decide ((e::es).length+([]:List Keyword).length+(if ([]:List Keyword).isEmpty then 0 else 1) < 30))=true:=by rfl)
   (hline:(apos.endLine==cpos.line)=true:=by rfl) (hs:starEach (e::es) X.env=(false,eval e X.env)::starEach es X.env:=by rfl) (hplain:(backTo cpos (starEach es X.env)).any (·.1)=false:=by rfl) :
   PE X (.Call (.Attribute o name apos) (e::es) [] cpos) (tBM X.K T r to t):=by
 intro pins s σ H Q I h
 refine wpAny_Call_method_late hbase hfew hline rfl (thn (ho pins s σ H _ I h) fun v s1 ⟨x,H1,I1,r1,ty,q1⟩=> ?_)
 obtain ⟨h1,h2⟩:=qyv I1 r1 ty
 refine⟨T,id,pa,slot,hty,h1,h2,?_⟩
 have hA:=ha cpos pins s1 σ H1 _ I1 q1
 rw[hs]at hA ⊢
 refine Calls.callWith_builtin (by show (false || (backTo cpos (starEach es X.env)).any (·.1))=false;rw[hplain] <;> rfl) (Calls.evalArgs_plain ?_)
 exact thn hA fun us s2 ⟨vs,H2,I2,r2,q2⟩=>hm pins s2 σ H2 x vs v us Q I2 r1 r2 q2
end
noncomputable def MtM (X:Cx) (id:String) (r:V→List V→Hp→VK→Prop):Prop :=
 ∀ (pins:List (Addr × Obj)) (s:Shared) (σ:St) (H:Hp) (x:V) (xs:List V) (v:Value) (us:List Value) (Q:VK),Inv X pins σ H s→RelV x v→Vals xs us→r x xs H Q →
   wpAny (model X.prog X.w) X.A (call (.builtin id) (v::us)) (EP X pins σ Q) X.xe s
theorem Vals.one:∀ {x:V} {us:List Value},Vals [x] us→∃ u,us=[u]∧RelV x u
 | _,_,.cons r .nil=>⟨_,rfl,r⟩
theorem Vals.two:∀ {x y:V} {us:List Value},Vals [x,y] us→∃ u v,us=[u,v]∧RelV x u∧RelV y v
 | _,_,_,.cons r (.cons q .nil)=>⟨_,_,rfl,r,q⟩
theorem Vals.zero:∀ {us:List Value},Vals [] us→us=[]
 | _,.nil=>rfl
theorem Vals.dropLast {xs:List V} {us:List Value} (h:Vals xs us):Vals xs.dropLast us.dropLast:=by
 induction h with
 | nil=>exact .nil
 | cons r t ih =>
   cases t with
   | nil=>exact .nil
   | cons q t'=>exact .cons r ih
theorem Vals.rep {xs:List V} {us:List Value} (h:Vals xs us):∀ k:Nat,Vals (List.replicate k xs).flatten (List.replicate k us).flatten
 | 0=>.nil
 | k+1=>by
   rw[List.replicate_succ,List.replicate_succ,List.flatten_cons,List.flatten_cons]
   exact Vals.append h (Vals.rep h k)
theorem quh {α:Type} (l:List α):l.eraseIdx (l.length - 1)=l.dropLast:=by
 induction l with
 | nil=>rfl
 | cons a r ih =>
   cases r with
   | nil=>rfl
   | cons b r =>
     have e:(a::b::r).length - 1=((b::r).length - 1)+1:=by
       have h1:(a::b::r).length=r.length+2:=rfl
       have h2:(b::r).length=r.length+1:=rfl
       omega
     rw[e,List.eraseIdx_cons_succ,ih]
     all_goals rfl
theorem foldl_rep (its:List Value):∀ (k:Nat) (acc:List Value),
   List.foldl (fun x1 x2=>x1++x2) acc.toArray (List.replicate k its.toArray)=(acc++(List.replicate k its).flatten).toArray
 | 0,acc=>by simp
 | k +1,acc=>by
   have e:acc.toArray++its.toArray=(acc++its).toArray:=by simp
   have e2:(acc++its)++(List.replicate k its).flatten=acc++(List.replicate (k+1) its).flatten:=by
     rw[List.replicate_succ,List.flatten_cons,List.append_assoc]
   rw[← e2,← foldl_rep its k (acc++its),← e,List.replicate_succ,List.foldl_cons]
section
variable {X:Cx} {pins:List (Addr × Obj)} {σ:St} {H:Hp} {s:Shared} {l b:Addr} {xs ys zs:List V}
theorem Inv.lset {its its':List Value} {n:Nat} {f:Array Value→Array Value} {t':Nat} (I:Inv X pins σ H s) (hH:H l=some (.lst xs))
   (e:s.heap.get? l=some { cls:=.type "list",data:=.seq its.toArray n }) (hf:f its.toArray=its'.toArray) (hv:Vals ys its') (hz:ys.length≤sizeLine) :
   Inv X pins σ (upd H l (.lst ys)) { s with heap:=s.heap.update l (Obj.mapSeq f),toks:=t' }:=by
 have q:=PySem.IsL.update e f
 rw[hf]at q
 refine I.write (x:=l) (e:=l) (by rw[hH];exact trivial) (.inl rfl) (fun b' u hb hu=>(Heap.get?_update_other s.heap (Obj.mapSeq f) (Ne.symm hb)).trans hu) ⟨_,q⟩ ?_
 exact⟨hz,its',_,hv,q⟩
theorem Inv.lnew {its:List Value} {t':Nat} (I:Inv X pins σ H s) (hv:Vals ys its) (hz:ys.length≤sizeLine) :
   Inv X pins σ (upd H s.heap.objs.size (.lst ys)) { s with heap:=s.heap.push { cls:=.type "list",data:=.seq its.toArray },toks:=t' } :=
 I.laid (fun _ _ q=>Heap.get?_push_of_some _ q) (Nat.le_refl _) ⟨hz,its,0,hv,Heap.get?_push_size _ rfl⟩
theorem Inv.fresh (I:Inv X pins σ H s):H s.heap.objs.size=none:=I.hok.fresh (Nat.le_refl _)
theorem Inv.lstM (I:Inv X pins σ H s) (hH:H l=some (.lst xs)):xs.length≤sizeLine∧∃ (its:List Value) (n:Nat),Vals xs its∧xs.length=its.length∧s.heap.get? l=some { cls:=.type "list",data:=.seq its.toArray n }:=by
 obtain ⟨z,its,n,r,e⟩:=I.hok l _ hH
 exact⟨z,its,n,r,r.length,e⟩
theorem qyw {n:Nat} (h:n≤sizeLine):Builtin.List.listTooLong n=false:=by
 unfold Builtin.List.listTooLong
 exact decide_eq_false (by omega)
end
section
variable {X:Cx}
noncomputable def q2a:V→List V→Hp→VK→Prop:=fun x vs H Q=>∃ l xs y,x=.ref l∧vs=[y]∧H l=some (.lst xs)∧xs.length < sizeLine∧Q .non (upd H l (.lst (xs++[y])))
theorem qxa:MtM X "list.append" q2a:=by
 intro pins s σ H x vs v us Q I rx rv h
 obtain ⟨l,xs,y,rfl,rfl,hH,hz,q⟩:=h
 cases rx
 obtain ⟨u,rfl,ru⟩:=rv.one
 obtain ⟨z,its,n,r,hl,e⟩:=I.lstM hH
 refine call_meets F.slot_list_append ⟨_,e,rfl⟩ F.entry_list_append (F.args_list_append_2 _ _) (PySem.list_append l its.toArray n u (by rw[List.size_toArray];omega)) ⟨e,?_⟩
 refine⟨.non,_,I.lset (its':=its++[u]) hH e (by simp) (r.append (.cons ru .nil)) ?_,rfl,q⟩
 rw[List.length_append,List.length_singleton]
 omega
noncomputable def rPop:V→List V→Hp→VK→Prop:=fun x vs H Q=>∃ l xs y,x=.ref l∧vs=[]∧H l=some (.lst xs)∧xs[xs.length - 1]? =some y∧Q y (upd H l (.lst xs.dropLast))
theorem q59:MtM X "list.pop" rPop:=by
 intro pins s σ H x vs v us Q I rx rv h
 obtain ⟨l,xs,y,rfl,rfl,hH,hy,q⟩:=h
 cases rx
 have hus:=rv.zero
 subst hus
 obtain ⟨z,its,n,r,hl,e⟩:=I.lstM hH
 obtain ⟨u,hu,ru⟩:=r.get hy
 have hy':its.toArray[its.toArray.size - 1]? =some u:=by
   show its.toArray[its.length - 1]? =some u
   rw[← Array.getElem?_toList,← hl]
   exact hu
 refine call_meets F.slot_list_pop ⟨_,e,rfl⟩ F.entry_list_pop (F.args_list_pop_1 _) (MeetsSeq.list_pop_last l its.toArray n u hy' (by rw[List.size_toArray];omega)) ⟨e,?_⟩
 refine⟨y,_,I.lset (its':=its.dropLast) hH e ?_ r.dropLast ?_,ru,q⟩
 · show its.toArray.eraseIdxIfInBounds (its.toArray.size - 1)=its.dropLast.toArray
   rw[List.size_toArray,List.eraseIdxIfInBounds_toArray,quh]
 · rw[List.length_dropLast]
   omega
noncomputable def q6a:V→List V→Hp→VK→Prop:=fun x vs H Q=>∃ l xs,x=.ref l∧vs=[]∧H l=some (.lst xs)∧Q .non (upd H l (.lst []))
theorem qyx:MtM X "list.clear" q6a:=by
 intro pins s σ H x vs v us Q I rx rv h
 obtain ⟨l,xs,rfl,rfl,hH,q⟩:=h
 cases rx
 have hus:=rv.zero
 subst hus
 obtain ⟨z,its,n,r,hl,e⟩:=I.lstM hH
 refine call_meets F.slot_list_clear ⟨_,e,rfl⟩ F.entry_list_clear (F.args_list_clear_1 _) (AutoSeq1.list_clear_list_0 l its.toArray n (by rw[List.size_toArray];omega)) ⟨e,?_⟩
 exact⟨.non,_,I.lset (its':=[]) (ys:=[]) hH e rfl .nil (Nat.zero_le _),rfl,q⟩
noncomputable def rCat:R2:=fun x y H Q=>∃ l b xs zs,x=.ref l∧y=.ref b∧H l=some (.lst xs)∧H b=some (.lst zs)∧xs.length+zs.length≤sizeLine∧∀ p,H p=none→Q (.ref p) (upd H p (.lst (xs++zs)))
theorem q6b:OpR X (binaryOp .Add) rCat:=by
 intro pins s σ H x y v u Q I rx ry h
 obtain ⟨l,b,xs,zs,rfl,rfl,hH,hB,hz,q⟩:=h
 cases rx
 cases ry
 obtain ⟨z,its,n,r,hl,e⟩:=I.lstM hH
 obtain ⟨z2,its2,n2,r2,hl2,e2⟩:=I.lstM hB
 refine PySem.P.add_list e e2 ?_ (by rw[List.size_toArray,List.size_toArray];omega)
 have ea:its.toArray++its2.toArray=(its++its2).toArray:=by simp
 rw[ea]
 exact⟨.ref _,_,I.lnew (t':=s.toks) (r.append r2) (by rw[List.length_append];omega),rfl,q _ I.fresh⟩
noncomputable def rRep:R2:=fun x y H Q=>∃ l k xs,x=.ref l∧y=.int k∧H l=some (.lst xs)∧ -(2 ^ 63)≤k∧k < 2 ^ 63∧xs.length * k.toNat≤sizeLine ∧
 ∀ p,H p=none→Q (.ref p) (upd H p (.lst (List.replicate k.toNat xs).flatten))
theorem len_rep {α:Type} (xs:List α) (k:Nat):(List.replicate k xs).flatten.length=k * xs.length:=by
 induction k with
 | zero=>simp
 | succ k ih=>rw[List.replicate_succ,List.flatten_cons,List.length_append,ih,Nat.succ_mul,Nat.add_comm]
theorem q6c:OpR X (binaryOp .Mult) rRep:=by
 intro pins s σ H x y v u Q I rx ry h
 obtain ⟨l,k,xs,rfl,rfl,hH,h1,h2,hz,q⟩:=h
 cases rx
 obtain ⟨t,rfl⟩:=ry
 obtain ⟨z,its,n,r,hl,e⟩:=I.lstM hH
 have hlen:its.toArray.size * k.toNat≤sizeLine:=by rw[List.size_toArray,← hl];exact hz
 have hcap:¬ its.toArray.size * k.toNat > (2 ^ 63 - 1) / 8:=by
   have:(sizeLine:Nat)≤(2 ^ 63 - 1) / 8:=by decide
   omega
 have hfit:¬ (!Builtin.List.listFitsIndex k)=true:=by
   rw[fitsIndex_both h1 h2]
   exact Bool.false_ne_true
 have hlong:¬ Builtin.List.listTooLong (its.toArray.size * k.toNat)=true:=by
   rw[qyw hlen]
   exact Bool.false_ne_true
 have hnew:List.foldl (fun x1 x2=>x1++x2) #[] (List.replicate (if its.toArray.isEmpty=true then 0 else k.toNat) its.toArray)=(List.replicate k.toNat its).flatten.toArray:=by
   have f0:∀ m:Nat,List.foldl (fun x1 x2=>x1++x2) #[] (List.replicate m its.toArray)=(List.replicate m its).flatten.toArray:=fun m=>by
     have:=foldl_rep its m []
     rw[List.nil_append]at this
     exact this
   rw[f0]
   cases its with
   | nil=>simp
   | cons a r'=>rw[if_neg (by simp)]
 refine wpAny_binaryOp_repeat_ref (T:="list") (U:="int") (by decide) ⟨_,e,rfl⟩ (fun s'=>typeIs_int s' k t) noFill_list_mul F.fills_int_mul F.slot_int_rmul repeat_list F.slot_int_index.lookup
   (call_meets F.slot_int_rmul (typeIs_int s k t) F.entry_int_rmul (F.args_int_rmul_2 _ _) (int___rmul___int_list k t l its.toArray n)
     ⟨e,rfl,⟨_,e,rfl⟩,call_meets F.slot_list_mul ⟨_,e,rfl⟩ F.entry_list_mul (F.args_list_mul_2 _ _) (AutoListH.list___mul___list_int_3 l its.toArray n k t hfit hcap hlong) ⟨e,?_⟩⟩)
 rw[hnew]
 exact⟨.ref _,_,I.lnew (t':=s.toks) (r.rep k.toNat) (by rw[len_rep,Nat.mul_comm];exact hz),rfl,q _ I.fresh⟩
end
section
variable {prog:Program} {w:World} {A:Around} {E:Value→Shared→Prop} {s:Shared}
end
section
variable {X:Cx}
end
end L2
namespace Att
open PySem PySem.W PySem.Calls PyProof.Rows
theorem qj4 {P:Params} {h:Heap}:∀ (ns:List Int) (vs:List Value),WellAll P h vs (ns.map WData.int)→IntsAre vs ns:=by
 intro ns
 induction ns with
 | nil =>
   intro vs w
   rw[List.map_nil]at w
   cases w
   exact .nil
 | cons n ns ih =>
   intro vs w
   rw[List.map_cons]at w
   cases w with
   | cons a b =>
     cases a
     exact .cons _ _ (ih _ b)
theorem qxb {l:OpenLaw} {n:Nat} (hn:l.most=some n) {P:Params} {h:Heap} {args:List WData} {vals:List Value}
   (hpre:l.row.toRowW.claim.pre args=true) (hwl:WellAll P h vals args) :
   ∃ a vs ns,vals=[Value.ref a]∧args=[WData.list (ns.map WData.int)]∧h.get? a=some { cls:=.type "list",data:=.seq vs.toArray }∧IntsAre vs ns∧ns.length≤n:=by
 have hsh:WShape.hasAll [] args [.list .int]=true:=(pre_splitW hpre).1
 have hc:l.pre.holds [] { args:=args }=true:=(pre_splitW hpre).2
 obtain ⟨d,r,rfl,h1,h2⟩:=hasAllW_cons hsh
 obtain rfl:=hasAllW_nil h2
 obtain ⟨xs,rfl,h3⟩:=hasW_list h1
 obtain ⟨ns,rfl⟩:=items_int h3
 have hlen:ns.length≤n:=by
   unfold OpenLaw.pre at hc
   have h4:(WTm.not (.lt (.lit (.int (n:Int))) (.len (.arg 0)))).holds [] { args:=[.list (ns.map .int)] }=true:=by
     have h4:=(holds_andW hc).1
     rw[hn]at h4
     exact h4
   have h5:=condW_of h4 (w_not (w_lt w_lit (w_len_list (w_arg rfl))))
   rw[List.length_map]at h5
   refine Nat.le_of_not_lt fun q=> ?_
   have q':(n:Int) < ((ns.length:Nat):Int):=by omega
   first
     | (rw[decide_eq_true q']at h5;exact absurd h5 (by decide))
     | (simp at h5;omega)
 cases hwl with
 | cons w1 w2 =>
   cases w2
   cases w1 with
   | list ho hall=>exact⟨_,_,ns,rfl,rfl,ho,qj4 ns _ hall,hlen⟩
theorem qxc (l:OpenLaw) (args:List WData):l.row.toRowW.claim.post args (.bool true) args=true :=
 postW_of (r:=l.row.toRowW) (X:=(true==true))
   (show WShape.has [] (.bool true) .bool=true by first | rfl | decide | simp [WShape.has,WShape.arms,WShape.armsAll])
   (show (WTm.eq .res (.lit (.bool true))).value [] { args:=args,res:=some (.bool true),after:=args }=some (.bool (true==true)) from w_eq_bool (w_res rfl) w_lit) rfl
theorem attach_call {l:OpenLaw} {n:Nat} {q:Program} {loose:List Str} {XP:(Str→Option Value)→Heap→Prop} {YP:World→Heap→Prop} {d:DefRec}
   (hn:l.most=some n) (hdf:d.params.defaults=[])
   (call:∀ (w:World) (s₀ s₁:Shared) (mg mb:Str→Option Value) (fa:Addr) (o:Obj) (pm cd doc:Value) (a:Addr) (vs:List Value) (ns:List Int),
     Ground q loose [] XP w s₀ mg mb s₁.heap→YP w s₁.heap →
     s₁.heap.get? fa=some o→o.data=.func (docDef d.name d.params d.body d.scope pm cd doc)→s₁.heap.CodeRec cd d.name→mg d.name=some (.ref fa) →
     s₁.heap.get? a=some { cls:=.type "list",data:=.seq vs.toArray }→IntsAre vs ns→ns.length≤n→s₁.gens= #[] →
     codeAny (model l.prog w) callerA (.call (.ref fa) ⟨[.ref a],[]⟩) (fun r s'=>r=.ok (.ret (.bool true))∧OldK s₁.heap s'.heap∧s'.os=s₁.os∧AllBare s'.gens) s₁) :
   WalkO q loose XP YP l.row.toRowW d [] (fun f vs=>PySem.call f vs):=by
 intro w s₀ s₁ mg mb G Y fa o pm cd doc dV kV ho hd hcd hD hmg hg args vals as hpre hlay hrd hwl hlo
 obtain rfl:dV=.none:=Dflts.none hD hdf
 obtain rfl:kV=.none:=Dflts.noKw hD
 obtain ⟨a,vs,ns,rfl,rfl,hobj,hints,hlen⟩:=qxb hn hpre hwl
 refine enter_call (codeAny_mono (call w s₀ s₁ mg mb fa o pm cd doc a vs ns G Y ho (fd_plain hd) hcd hmg hobj hints hlen hg) fun r s' hq=> ?_)
 obtain ⟨rfl,h2,h3,h4⟩:=hq
 exact⟨.inl ⟨.bool true,.bool true,[],rfl,fun _=>rfl,.bool true,qxc l _,fun _=>⟨List.Pairwise.nil,fun _ hm=>(nomatch hm)⟩⟩,h2,h3,h4⟩
section
variable {prog:Program} {w:World} {A:Around} {E:Value→Shared→Prop} {s:Shared} {K:Frag}
end
end Att
namespace L2
open PySem PySem.Spec PyProof.Rows
theorem qoe:∀ {vs:List Value} {ns:List Int},IntsAre vs ns→Vals (ns.map V.int) vs
 | _,_,.nil=>.nil
 | _,_,.cons n t h=>.cons ⟨t,rfl⟩ (qoe h)
noncomputable def q6d (H:Hp):Prop:=∀ b,H b=none∨∃ o xs,H b=some (.frz o (.lst xs))
theorem qyy {P:Program} {w:World} {K:PySem.W.Frag} {mg mb:Str→Option Value} {CX:CXT} {k:Nat} {fa a:Addr} {fd:FuncData} {x:Str} {sp:Sp} {s₁:Shared} {vs:List Value} {ns:List Int}
   (KX:K.In s₁.heap) (hns:s₁.heap.Ns mainGlobals mg) (hb:s₁.heap.Ns builtinsNs mb) (hbb:∀ x:Str,x ≠ "__name__"→mb x=bootBuiltins x) (hlim:s₁.heap.NoLimit) (hg:s₁.gens= #[])
   (ha:s₁.heap.get? a=some { cls:=.type "list",data:=.seq vs.toArray }) (hi:IntsAre vs ns) (hl:ns.length≤sizeLine) (hr:qct k callerA)
   (F:∀ base:Heap,K.In base→base.Ns mainGlobals mg→qef P w K mg base CX k fa fd [x] sp) (hbind:∀ (s:Shared) (u:Value),BindsTo s fd ⟨[u],[]⟩ [(x,u)])
   (hsp:∀ H:Hp,q6d H→SqL K H a (ns.map V.int)→sp [.ref a] H (fun v _=>v=.bl true) fun _ _ _=>False)
   (hCX:∀ H e s',CX [] H s₁ (fun _ _ _=>False) e s'→False) :
   codeAny (model P w) callerA (.call (.ref fa) ⟨[.ref a],[]⟩) (fun r s'=>r=.ok (.ret (.bool true))∧OldK s₁.heap s'.heap∧s'.os=s₁.os∧AllBare s'.gens) s₁:=by
 have rv:=qoe hi
 have lenV:=hi.length
 have core :∀ H:Hp,q6d H→SqL K H a (ns.map V.int)→HOk P w H s₁.heap→(∀ b,H b ≠ none→b=a)→(H a ≠ none→K.lookup a=none) →
     codeAny (model P w) callerA (.call (.ref fa) ⟨[.ref a],[]⟩) (fun r s'=>r=.ok (.ret (.bool true))∧OldK s₁.heap s'.heap∧s'.os=s₁.os∧AllBare s'.gens) s₁:=by
   intro H hO hS hok hA hK
   have base_of:∀ {b:Addr} {o:Obj},s₁.heap.get? b=some o→H b=none→(qpb s₁.heap H).get? b=some o:=fun e n=>qyf e n
   have noA:∀ {b:Addr} {o:Obj} {es:Array DictEntry} {ep:Nat},s₁.heap.get? b=some o→o.data=.dict es ep→H b=none:=fun {b o es ep} e d=>by
     cases q:H b with
     | none=>rfl
     | some u =>
       have e':b=a:=hA b (by rw[q];simp)
       subst e'
       rw[ha]at e;cases e
       have d':Data.seq vs.toArray _=Data.dict es ep:=d
       cases d'
   have nsK:∀ {b:Addr} {m:Str→Option Value},s₁.heap.Ns b m→(qpb s₁.heap H).Ns b m:=fun {b m} ⟨o,es,ep,e,d,r⟩=>⟨o,es,ep,base_of e (noA e d),d,r⟩
   have hKb:K.In (qpb s₁.heap H):=fun b o e=>base_of (KX b o e) (by
     cases q:H b with
     | none=>rfl
     | some u =>
       have e':b=a:=hA b (by rw[q];simp)
       subst e'
       rw[hK (by rw[q];simp)]at e;cases e)
   have hM:Mod K mg (qpb s₁.heap H):=⟨hKb,nsK hns,⟨mb,nsK hb,hbb⟩,let ⟨mc,h1,h2⟩:=hlim;⟨mc,nsK h1,h2⟩⟩
   have e0:q16 P w K mg (qpb s₁.heap H) callerA [] s₁ H:=⟨rfl,hM,fun b o e=>q1o e,Nat.le_of_eq (qwy _ _),trivial,fun b hb=>absurd (show b ∈ ([]:List Addr) from hb) (by simp),hok,.of_eq hg⟩
   refine codeAny_mono ((F _ hKb (nsK hns)).run callerA [] s₁ H ⟨[.ref a],[]⟩ [.ref a] [.ref a] _ _ hr e0 (hbind s₁ (.ref a)) (.cons rfl .nil) (hsp H hO hS)) fun r s' h=> ?_
   cases r with
   | error e=>exact(hCX H e s' h).elim
   | ok fl =>
     cases fl with
     | next=>exact False.elim h
     | brk=>exact False.elim h
     | cont=>exact False.elim h
     | ret u =>
       obtain ⟨v,H',os,bare,un,hok',r',q⟩:=h
       have q':v=.bl true:=q
       subst q'
       obtain rfl:u=Value.bool true:=r'
       refine⟨rfl,OldK.of_keep fun b o e=> ?_,os,bare⟩
       cases q:H b with
       | none=>exact un.keep b o e q (by intro z;exact absurd (show b ∈ ([]:List Addr) from z) (by simp)) (by simp)
       | some u =>
         rcases hO b with z | ⟨ob,xs,z⟩
         · rw[q]at z;cases z
         · have z2:=un.frzs b ob _ z
           obtain ⟨e1,_⟩:=hok b _ z
           obtain ⟨e2,_⟩:=hok' b _ z2
           rw[e]at e1;cases e1
           exact e2
 cases hk:K.lookup a with
 | some o =>
   have e:=KX a o hk
   rw[ha]at e
   cases e
   refine core (fun _=>none) (fun _=>.inl rfl) (.inr ⟨_,vs.toArray,_,hk,rfl,rfl,rfl,by rw[List.size_toArray,lenV];exact hl,by simpa using rv⟩) (fun b u z=>by have z':(none:Option HO)=some u:=z;cases z') (fun b z=>absurd rfl z) fun z=>absurd rfl z
 | none =>
   refine core (fun b=>if b=a then some (.frz { cls:=.type "list",data:=.seq vs.toArray } (.lst (ns.map V.int)))else none) (fun b=> ?_) (.inl (.inr ⟨{ cls:=.type "list",data:=.seq vs.toArray },if_pos rfl⟩)) (fun b u z=> ?_) (fun b z=> ?_) fun _=>hk
   · by_cases hb:b=a
     · exact .inr ⟨_,_,if_pos hb⟩
     · exact .inl (if_neg hb)
   · by_cases hb:b=a
     · have z':=(if_pos hb).symm.trans z
       cases z'
       subst hb
       exact⟨ha,by rw[List.length_map];exact hl,vs,_,rv,ha⟩
     · have z':=(if_neg hb).symm.trans z
       cases z'
   · by_cases hb:b=a
     · exact hb
     · exact absurd (if_neg hb) z
theorem walk_of {l:PySem.W.OpenLaw} {n k:Nat} {q:Program} {loose:List Str} {XP:(Str→Option Value)→Heap→Prop} {YP:World→Heap→Prop} {d:DefRec} {K:Params→PySem.W.Frag} {CX:World→CXT} {sp:World→Sp} {x:Str}
   (hn:l.most=some n) (hn2:n≤sizeLine) (hdf:d.params.defaults=[]) (hr:qct k callerA)
   (hY:∀ (w:World) (h:Heap),YP w h→(K w.params).In h)
   (F:∀ (w:World) (mg:Str→Option Value) (fa:Addr) (h:Heap),(K w.params).In h→h.Ns mainGlobals mg→mg d.name=some (.ref fa) →
     ∃ fd:FuncData,(∀ (s:Shared) (u:Value),BindsTo s fd ⟨[u],[]⟩ [(x,u)]) ∧
       ∀ base:Heap,(K w.params).In base→base.Ns mainGlobals mg→qef l.prog w (K w.params) mg base (CX w) k fa fd [x] (sp w))
   (hsp:∀ (w:World) (H:Hp) (a:Addr) (ns:List Int),ns.length≤n→q6d H→SqL (K w.params) H a (ns.map V.int)→sp w [.ref a] H (fun v _=>v=.bl true) fun _ _ _=>False)
   (hCX:∀ (w:World) (H:Hp) (s:Shared) (e:Value) (s':Shared),CX w [] H s (fun _ _ _=>False) e s'→False) :
   PySem.W.WalkO q loose XP YP l.row.toRowW d [] (fun f vs=>PySem.call f vs):=by
 refine Att.attach_call hn hdf fun w s₀ s₁ mg mb fa o pm cd doc a vs ns G Y ho hd hcd hmg hobj hints hlen hg=> ?_
 have KX:=hY w _ Y
 obtain ⟨fd,hb,hF⟩:=F w mg fa _ KX G.T.g hmg
 exact qyy KX G.T.g G.T.b G.T.builtins G.T.nolimit hg hobj hints (Nat.le_trans hlen hn2) hr hF hb (fun H hO hS=>hsp w H a ns hlen hO hS) fun H e s'=>hCX w H s₁ e s'
noncomputable def qcw (s:Stmt):Arguments:=match s with
 | .FunctionDef _ a _ _ _ _ _ _ _ _=>a
 | _=>{ posonlyargs:=[],args:=[],vararg:=none,kwonlyargs:=[],kw_defaults:=[],kwarg:=none,defaults:=[] }
noncomputable def qa1 (s:Stmt):List Stmt:=match s with
 | .FunctionDef _ _ b _ _ _ _ _ _ _=>b
 | _=>[]
noncomputable def qf (s:Stmt):Scope:=match s with
 | .FunctionDef _ _ _ _ _ _ sc _ _ _=>sc
 | _=>{ kind:=.function,names:=[],isGenerator:=false,isCoroutine:=false }
noncomputable abbrev CX0:CXT:=fun _ _ _ _ _ _=>False
noncomputable abbrev E0:XK:=fun _ _ _=>False
theorem q96 {X:Cx}:Passes CX0 X E0:=fun _ _ _ _ _ _ _ h=>h.elim
structure Fun (K:PySem.W.Frag) (x qual:Str) (st:Stmt) (f:Addr) (fd:FuncData):Prop where
 ex:∃ (oc:Value) (od:Option Addr) (kV doc pm:Value) (an:Option Addr) (cdv ct:Value) (osl:Array (Option Value)),
   fd=PySem.W.fnOf x qual (qcw st) (qa1 st) (qf st) .none kV doc pm an cdv ct∧K.lookup f=some ⟨oc,od,.func fd,osl⟩∧PySem.W.codeIn K cdv qual=true
 kp:PySem.W.keepIn K (.ref f)=true
section
variable {P:Program} {w:World} {K:PySem.W.Frag} {mg:Str→Option Value} {base:Heap}
theorem Fun.ok {x qual:Str} {st:Stmt} {f:Addr} {fd:FuncData} {N ps:List Str} {k:Nat} {sp:Sp} (F:Fun K x qual st f fd) (S:qcv N ps (qf st)) (len:∀ vs H Q E,sp vs H Q E→vs.length=ps.length)
   (hbody:∀ (cdv:Value) (A:Around) (outer:List Env) (s:Shared) (H:Hp) (vs:List V) (Q:VK) (E:XK),qct k (A.deeper (envOfC qual (qf st) s.heap.objs.size f cdv))→sp vs H Q E →
     ∃ t,PSs (qm3 CX0 P w K mg base N qual (qf st) f cdv A outer s H E).nox (qa1 st) t∧t { nx:=fun _ H'=>Q .non H',rt:=Q } (start N vs) H):qef P w K mg base CX0 (k+1) f fd ps sp:=by
 obtain ⟨oc,od,kV,doc,pm,an,cdv,ct,osl,rfl,lk,hcd⟩:=F.ex
 refine q90 lk hcd S len fun A outer s H vs Q E hr hsp=> ?_
 obtain ⟨t,h,q⟩:=hbody cdv A outer s H vs Q E hr hsp
 exact⟨t,h.nox,q⟩
theorem qpl {x qual:Str} {st:Stmt} {f:Addr} {oc:Value} {od an:Option Addr} {osl:Array (Option Value)} {kV doc pm cdv ct:Value} (l:K.lookup f=some ⟨oc,od,.func (PySem.W.fnOf x qual (qcw st) (qa1 st) (qf st) .none kV doc pm an cdv ct),osl⟩)
   (c:PySem.W.codeIn K cdv qual=true) (k:PySem.W.keepIn K (.ref f)=true):Fun K x qual st f (PySem.W.fnOf x qual (qcw st) (qa1 st) (qf st) .none kV doc pm an cdv ct):=⟨⟨oc,od,kV,doc,pm,an,cdv,ct,osl,rfl,l,c⟩,k⟩
end
theorem qbp {n:Nat} (h:n≤1000):n < sizeLine:=Nat.lt_of_le_of_lt h (by decide)
section
variable {X:Cx}
theorem pv (i:Nat) {x:Str} {pos:Pos} (hN:X.N[i]? =some x:=by rfl) (hv:Vis X.env.scope x:=by first | exact Or.inl rfl | exact Or.inr (Or.inl rfl) | exact Or.inr (Or.inr rfl)) (hd:(x==("__debug__":Str))=false:=by decide)
   (hcd:(x==("__classdict__":Str))=false:=by decide):PE X (.Name x pos) (q48 i):=qt7 hN hv hd hcd
end
noncomputable def qgg (H H':Hp):Prop:=∀ b o,H b=some o→H' b=some o
theorem qgg.trans {H H1 H2:Hp} (a:qgg H H1) (b:qgg H1 H2):qgg H H2:=fun c o h=>b c o (a c o h)
theorem qgg.free {H H':Hp} (e:qgg H H') {l:Addr} (h:H' l=Option.none):H l=Option.none:=by
 cases q:H l with
 | none=>rfl
 | some o =>
   rw[e l o q]at h
   cases h
structure Fn (P:Program) (w:World) (K:PySem.W.Frag) (mg:Str→Option Value) (base:Heap) (x:Str) (ps:List Str) (k:Nat) (sp:Sp):Prop where
 ex:∃ (f:Addr) (fd:FuncData),qef P w K mg base CX0 k f fd ps sp∧mg x=some (.ref f)∧PySem.W.keepIn K (.ref f)=true∧Binds K fd ps []
section
variable {X:Cx} {x:Str} {ps:List Str} {k k':Nat} {sp:Sp} {p pos:Pos} {e:Expr} {es:List Expr} {t:TA}
theorem q97 (F:Fn X.prog X.w X.K X.mg X.base x ps k sp) (hr:qct k' X.A) (hk:k≤k') (hg:Gl X x) (ha:PA X (e::es) t) (hdb:(x==("__debug__":Str))=false:=by decide)
   (he:starEach (e::es) X.env=(false,eval e X.env)::starEach es X.env:=by rfl) (hpl:(backTo pos (starEach es X.env)).any (·.1)=false:=by rfl) :
   PE X (.Call (.Name x p) (e::es) [] pos) (qyq sp [] E0 t):=by
 obtain ⟨f,fd,G,hm,hkp,hb⟩:=F.ex
 exact qvl G (hr.mono hk) hg hm hkp hb .nil q96 ha hdb he hpl
end
theorem qkl:bootBuiltins "list"=some (.type "list"):=by decide +kernel
theorem qrm:bootBuiltins "tuple"=some (.type "tuple"):=by decide +kernel
theorem q2b:bootBuiltins "bool"=some (.type "bool"):=by decide +kernel
theorem qyz:bootBuiltins "int"=some (.type "int"):=by decide +kernel
theorem qy0:bootBuiltins "str"=some (.type "str"):=by decide +kernel
theorem q2c:bootBuiltins "dict"=some (.type "dict"):=by decide +kernel
theorem q6e:bootBuiltins "set"=some (.type "set"):=by decide +kernel
theorem qpm:bootBuiltins "enumerate"=some (.type "enumerate"):=by decide +kernel
theorem q6f:bootBuiltins "zip"=some (.type "zip"):=by decide +kernel
theorem qy1:bootBuiltins "len"=some (.builtin "len"):=by decide +kernel
theorem q6g:bootBuiltins "min"=some (.builtin "min"):=by decide +kernel
theorem q6h:bootBuiltins "max"=some (.builtin "max"):=by decide +kernel
theorem q6i:bootBuiltins "sum"=some (.builtin "sum"):=by decide +kernel
theorem q6j:bootBuiltins "all"=some (.builtin "all"):=by decide +kernel
theorem q6k:bootBuiltins "any"=some (.builtin "any"):=by decide +kernel
theorem qxd:bootBuiltins "sorted"=some (.builtin "sorted"):=by decide +kernel
theorem qm6:bootBuiltins "isinstance"=some (.builtin "isinstance"):=by decide +kernel
section
variable {X:Cx}
noncomputable def rIsi (K:PySem.W.Frag):List V→Hp→VK→Prop:=fun xs H Q=>∃ x n t b,xs=[x,.ty n]∧qhb K H x t∧PySem.W.kitOne K t (.type n)=some b∧Q (.bl b) H
theorem qy2:qaj X (.builtin "isinstance") (rIsi X.K):=by
 intro pins s σ H xs us Q I r h
 obtain ⟨x,n,t,b,rfl,ty,e,q⟩:=h
 cases r with
 | cons r1 r =>
   cases r with
   | cons r2 r =>
     cases r
     obtain rfl:=(show _=Value.type n from r2)
     exact qw8 I r1 ty e fun tk=>⟨.bl b,H,I.tok _,rfl,q⟩
end
example (K:PySem.W.Frag):PySem.W.kitOne K (.type "int") (.type "list")=some false:=by rfl
example (K:PySem.W.Frag):PySem.W.kitOne K (.type "int") (.type "int")=some true:=by rfl
example (K:PySem.W.Frag):PySem.W.kitOne K (.type "bool") (.type "int")=some true:=by rfl
example (K:PySem.W.Frag):PySem.W.kitOne K (.type "list") (.type "tuple")=some false:=by rfl
example (K:PySem.W.Frag):PySem.W.kitOne K (.type "NoneType") (.type "str")=some false:=by rfl
section
variable {X:Cx} {pins:List (Addr × Obj)} {σ:St} {H:Hp} {s:Shared}
end
section
variable {X:Cx}
theorem of_rcne {A:Around} {s:Shared} {prog:Program} {w:World} {E:Value→Shared→Prop} {Q:Value→Shared→Prop} {a b:Value} {k:Bool} (h:SeqAt.RcNeAt A s a b k) (hq:Q (.bool k) s):wpAny (model prog w) A (compareOp .NotEq a b) Q E s:=h prog w E Q hq
end
theorem qgg.upd {H:Hp} {p:Addr} {o:HO} (h:H p=none):qgg H (L2.upd H p o):=fun c u e=>by rw[qc (q9 e h)];exact e
theorem q98 {P:Program} {w:World} {K:PySem.W.Frag} {mg:Str→Option Value} {base:Heap} {x:Str} {ps:List Str} {k:Nat} {sp:Sp} {f:Addr} {fd:FuncData} (F:qef P w K mg base CX0 k f fd ps sp) (m:mg x=some (.ref f)) (kp:PySem.W.keepIn K (.ref f)=true) (b:Binds K fd ps []):Fn P w K mg base x ps k sp:=⟨f,fd,F,m,kp,b⟩
section
variable {X:Cx}
noncomputable def qe5 (i j:Int):Prop:=0 < j∧j < 1606938044258990275541962092341162602522202993782792835301376
theorem qe5.ok {i j:Int} (h:qe5 i j):Builtin.divisionGoesByPylong i j=false:=by
 refine PyProof.noPylong_of_log2 ?_
 have h1:j.natAbs < 2 ^ 200:=by have:=h.1;have:=h.2;omega
 have h2:j.natAbs ≠ 0:=by have:=h.1;omega
 have:=(Nat.log2_lt h2).mpr h1
 omega
theorem qy3:OpR X (binaryOp .FloorDiv) (rI qe5 fun i j=>.int (i / j)):=opI fun i j _ _ _ _ _ hc q=>by
 refine floordiv_int (by have:=hc.1;omega) ?_ (.inl hc.ok)
 rw[Int.fdiv_eq_ediv_of_nonneg _ (Int.le_of_lt hc.1)]
 exact q
theorem qy4:qrh X (q55 X.K):=by
 intro pins s σ H x y v u Q I rx ry h
 obtain ⟨p,xs,i,z,rfl,rfl,hq,he,q⟩:=h
 cases rx
 obtain ⟨t,rfl⟩:=ry
 obtain ⟨its,r,pl,hz⟩:=I.list hq
 obtain ⟨j,h1,h2,h3,h4,h5⟩:=qkk he
 obtain ⟨w,ew,rw'⟩:=r.get h2
 have hl:=r.length
 have hn:=qe4
 have fin:EP X pins σ Q w s:=⟨z,H,I,rw',q⟩
 by_cases h0:0≤i
 · have hj:i.toNat=j:=by
     rw[seqIndex_of h0 h5]at h1
     exact Option.some.inj h1
   exact wpAny_getItem_list pl.isList h0 (by omega) (by rw[hj];simpa using ew) fin
 · have hj:(i+(its.toArray.size:Int)).toNat=j:=by
     rw[seqIndex_neg (by omega) h4]at h1
     rw[List.size_toArray,← hl]
     exact Option.some.inj h1
   exact wpAny_getItem_list_neg pl.isList (by omega) (by rw[List.size_toArray] <;> omega) (by omega) (by rw[hj];simpa using ew) fin
end
theorem qxe (ns:List Int) (lo hi:Option Int):∃ ms:List Int,qj3 (ns.map V.int) lo hi=ms.map V.int :=
 ⟨(ns.drop (HT.sIx (ns.map V.int).length 0 lo)).take (HT.sIx (ns.map V.int).length (ns.map V.int).length hi - HT.sIx (ns.map V.int).length 0 lo),by unfold qj3;rw[← List.map_drop,← List.map_take]⟩
noncomputable def qdj (env:Env):List (Str × NameKind)→List (Str × Addr)→List (Str × Addr)
 | [],cs=>cs
 | (n,k)::r,cs=>qdj env r (if k==.free then (n,(env.cells.lookup n).getD 0)::cs else cs)
noncomputable def clo (scope:Scope) (env:Env):List (Str × Addr):=qdj env scope.names []
theorem qjl (env:Env):∀ (names:List (Str × NameKind)) (cs:List (Str × Addr)),(∀ y ∈ names,y.2=.free→∃ c,env.cells.lookup y.1=some c) →
   (forIn names cs (fun (x:Str × NameKind) (r:List (Str × Addr))=>do
     let cs:=r
     if x.2==NameKind.free then do
       let c ← cellOf env x.1
       let cs:=(x.1,c)::cs
       pure PUnit.unit
       pure (ForInStep.yield cs)
     else do
       pure PUnit.unit
       pure (ForInStep.yield cs)):Sem (List (Str × Addr)))=pure (qdj env names cs)
 | [],cs,_=>rfl
 | (n,k)::r,cs,h=>by
   have ih:=fun cs=>qjl env r cs (fun y hy=>h y (List.mem_cons_of_mem _ hy))
   rw[List.forIn_cons]
   by_cases hk:k=.free
   · subst hk
     obtain ⟨c,e⟩:=h (n,.free) List.mem_cons_self rfl
     have e1:cellOf env n=pure c:=by unfold cellOf;rw[e]
     simp only [beq_self_eq_true,if_true,e1,pure_bind]
     rw[ih]
     show _=pure (qdj env r (if (NameKind.free==NameKind.free)=true then _ else _))
     rw[if_pos (by rfl),e]
     rfl
   · have hb:(k==NameKind.free)=false:=by simpa using hk
     simp only [hb,Bool.false_eq_true,if_false,pure_bind]
     rw[ih]
     show _=pure (qdj env r (if (k==NameKind.free)=true then _ else _))
     rw[hb]
     rfl
theorem qk2 {scope:Scope} {env:Env} (h:∀ y ∈ scope.names,y.2=.free→∃ c,env.cells.lookup y.1=some c):closureFor scope env=pure (clo scope env):=by
 unfold closureFor
 have:=qjl env scope.names [] h
 simp only [pure_bind,bind_pure]at this ⊢
 exact this
theorem qjm (env:Env):∀ (names:List (Str × NameKind)) (cs:List (Str × Addr)) (x:Str) (c:Addr),(∀ y ∈ names,y.2=.free→∃ c,env.cells.lookup y.1=some c)→(qdj env names cs).lookup x=some c →
   (cs.lookup x=some c∨env.cells.lookup x=some c)
 | [],cs,x,c,_,h=>.inl h
 | (n, k)::r,cs,x,c,hh,h=>by
   have ih:=qjm env r (if k==.free then (n,(env.cells.lookup n).getD 0)::cs else cs) x c (fun y hy=>hh y (List.mem_cons_of_mem _ hy)) h
   rcases ih with ih | ih
   · by_cases hk:k=.free
     · subst hk
       rw[if_pos (by rfl)]at ih
       obtain ⟨d,e⟩:=hh (n,.free) List.mem_cons_self rfl
       by_cases hx:x=n
       · subst hx
         simp [List.lookup_cons]at ih
         rw[e]at ih
         right
         rw[e]
         simpa using ih
       · have:(x==n)=false:=by simpa using hx
         simp only [List.lookup_cons,this]at ih
         exact .inl ih
     · have hb:(k==NameKind.free)=false:=by simpa using hk
       rw[hb]at ih
       exact .inl ih
   · exact .inr ih
theorem qeg {scope:Scope} {env:Env} {x:Str} {c:Addr} (hh:∀ y ∈ scope.names,y.2=.free→∃ c,env.cells.lookup y.1=some c) (h:(clo scope env).lookup x=some c):env.cells.lookup x=some c:=by
 rcases qjm env scope.names [] x c hh h with z | z
 · simp at z
 · exact z
theorem qhd (env:Env):∀ (names:List (Str × NameKind)) (cs:List (Str × Addr)) (x:Str),(∃ c,cs.lookup x=some c)→∃ c,(qdj env names cs).lookup x=some c
 | [],cs,x,h=>h
 | (n,k)::r,cs,x,h=>by
   refine qhd env r _ x ?_
   by_cases hk:(k==NameKind.free)=true
   · rw[if_pos hk,List.lookup_cons]
     cases x==n with
     | true=>exact⟨_,rfl⟩
     | false=>exact h
   · rw[if_neg hk];exact h
theorem qe6 (env:Env):∀ (names:List (Str × NameKind)) (cs:List (Str × Addr)) (x:Str),(x,NameKind.free) ∈ names→∃ c,(qdj env names cs).lookup x=some c
 | [],cs,x,h=>by simp at h
 | (n,k)::r,cs,x,h=>by
   rcases List.mem_cons.mp h with h | h
   · cases h
     refine qhd env r _ _ ?_
     rw[if_pos (by rfl),List.lookup_cons]
     simp
   · exact qe6 env r _ x h
theorem qcx {scope:Scope} {env:Env} {x:Str} {k:NameKind} (h:(relabel scope env).names.lookup x=some k):(x,k) ∈ scope.names∨(k=.cell∧(x,NameKind.free) ∈ scope.names):=by
 have hm:=PySem.mem_of_lookup h
 unfold relabel at hm
 obtain ⟨⟨n,k'⟩,h1,h2⟩:=List.mem_map.mp hm
 dsimp only at h2
 by_cases hc:(k'==NameKind.free && env.scope.kind==.function && env.kindOf n==some .cell)=true
 · rw[if_pos hc]at h2
   cases h2
   simp only [Bool.and_eq_true,beq_iff_eq]at hc
   obtain ⟨⟨rfl,_⟩,_⟩:=hc
   exact .inr ⟨rfl,h1⟩
 · rw[if_neg hc]at h2
   cases h2
   exact .inl h1
theorem qad:∀ (names:List (Str × NameKind)) (n:Nat) (acc:List (Str × Addr)),cellsFrom n names acc=cellsFrom n names []++acc
 | [],n,acc=>rfl
 | (x,k)::r,n,acc=>by
   by_cases hk:(k==NameKind.cell)=true
   · have e:∀ a,cellsFrom n ((x,k)::r) a=cellsFrom (n+1) r ((x,n)::a):=fun a=>by rw[cellsFrom,if_pos hk]
     rw[e,e,qad r (n+1) ((x,n)::acc),qad r (n+1) [(x,n)],List.append_assoc]
     rfl
   · have e:∀ a,cellsFrom n ((x,k)::r) a=cellsFrom n r a:=fun a=>by rw[cellsFrom,if_neg hk]
     rw[e,e]
     exact qad r n acc
theorem qdt:∀ {names:List (Str × NameKind)} {n:Nat} {x:Str} {a:Addr},(x,a) ∈ cellsFrom n names []→(x,NameKind.cell) ∈ names
 | [],n,x,a,h=>by simp [cellsFrom]at h
 | (y, k)::r,n,x,a,h=>by
   by_cases hk:(k==NameKind.cell)=true
   · rw[cellsFrom,if_pos hk,qad]at h
     rcases List.mem_append.mp h with z | z
     · exact List.mem_cons_of_mem _ (qdt z)
     · have z:(x,a)=(y,n):=by simpa using z
       cases z
       have:k=.cell:=by simpa using hk
       subst this
       exact List.mem_cons_self
   · rw[cellsFrom,if_neg hk]at h
     exact List.mem_cons_of_mem _ (qdt h)
theorem qc3 {α:Type} (x:Str):∀ (l m:List (Str × α)),(l++m).lookup x=(l.lookup x).or (m.lookup x)
 | [],m=>rfl
 | (y,a)::l,m=>by
   rw[List.cons_append,List.lookup_cons,List.lookup_cons,qc3 x l m]
   cases x==y <;> rfl
theorem qcm:∀ {names:List (Str × NameKind)} {n:Nat} {x:Str},(x,NameKind.cell) ∈ names→∃ a,(cellsFrom n names []).lookup x=some a
 | [],n,x,h=>by simp at h
 | (y, k)::r,n,x,h=>by
   by_cases hk:(k==NameKind.cell)=true
   · rw[cellsFrom,if_pos hk,qad,qc3]
     rcases List.mem_cons.mp h with z | z
     · cases z
       cases q:(cellsFrom (n+1) r []).lookup y with
       | some a=>exact⟨a,rfl⟩
       | none=>exact⟨n,by simp [List.lookup_cons]⟩
     · obtain ⟨a,e⟩:=qcm (n:=n+1) z
       exact⟨a,by rw[e];rfl⟩
   · rw[cellsFrom,if_neg hk]
     rcases List.mem_cons.mp h with z | z
     · cases z;simp at hk
     · exact qcm z
theorem qgh {M:Model} {A:Around} {E:Value→Shared→Prop} {scope:Scope} {cl:List (Str × Addr)} {env:Env} {Q:Env→Shared→Prop} {s:Shared}
   (h:Q { scope:=scope,locals:=s.heap.objs.size,globals:=env.globals,cells:=cellsFrom (s.heap.objs.size+1) scope.names cl,qual:=env.qual,func:=none,code:=env.code,frame:=env.frame,builtins:=env.builtins } { s with heap:=pushCells (s.heap.push { cls:=.type "dict",data:=.dict #[] }) scope.names }) :
   wpAny M A (newFunctionEnv scope env.globals cl [] env.qual none .none (some env)) Q E s:=by
 simp only [newFunctionEnv,Option.isSome_some,if_true]
 refine wpAny_bind (wpAny_alloc ?_)
 refine wpAny_bind (wpAny_layCells _ (fun name kind cells=>by cases hkc:kind==NameKind.cell <;> simp [hkc]) _ _ _ _ ?_)
 rw[show ({ s with heap:=s.heap.push { cls:=.type "dict",data:=.dict #[] } }:Shared).heap.objs.size=s.heap.objs.size+1 from Heap.size_push ..]
 rw[List.forIn_nil]
 exact wpAny_bind (wpAny_pure (wpAny_pure h))
noncomputable def cxC (X:Cx) (ts M:List Str) (scope:Scope) (C:Addr) (fp:List Addr) (s₀:Shared) (H₀:Hp):Cx :=
 { X with N:=ts++M,s₀:=s₀,H₀:=H₀,env:=compEnvC scope (cellsFrom (C+1) scope.names (clo scope X.env)) C X.env,outer:=X.stack,ex:=fp,fn:=fun x=>scope.names.lookup x==some .cell,pn:=[],xe:=fun _ _=>False }
structure qav (X:Cx) (ts M:List Str) (scope:Scope):Prop where
 kind:scope.kind=.function
 cell:∀ x ∈ M,(x,NameKind.cell) ∉ scope.names
 loc:∀ y ∈ scope.names,y.2=.local→scope.names.lookup y.1=some .local
 fr:∀ y ∈ scope.names,y.2=.free→X.env.kindOf y.1=some .cell∨X.env.kindOf y.1=some .free
 own:∀ x ∈ M,(x,NameKind.local) ∉ scope.names
 nd:(ts++M).Nodup
 len:M.length=X.N.length
 seen:∀ (i:Nat) (x:Str) (k:NameKind),M[i]? =some x→(x,k) ∈ scope.names→X.N[i]? =some x
noncomputable def qib (N:List Str) (sc:Scope) (ts M:List Str) (scope:Scope):Bool :=
 scope.kind==.function && scope.names.all (fun y=>(y.2 != .local || scope.names.lookup y.1==some .local) && (y.2 != .free || (sc.names.lookup y.1==some .cell || sc.names.lookup y.1==some .free))) &&
   M.all (fun x=>scope.names.all fun y=> !(y.1==x && (y.2==.local || y.2==.cell))) && decide (ts++M).Nodup && (decide (M.length=N.length) && (N.zip M).all fun p=>p.1==p.2 || scope.names.all fun y=> !(y.1==p.2))
theorem qfy {X:Cx} {N:List Str} {sc:Scope} {ts M:List Str} {scope:Scope} (hN:X.N=N) (hs:X.env.scope=sc) (h:qib N sc ts M scope=true):qav X ts M scope:=by
 subst hN hs
 unfold qib at h
 rw[Bool.and_eq_true,Bool.and_eq_true (decide (M.length=X.N.length))]at h
 obtain ⟨h,h5,h6⟩:=h
 simp only [Bool.and_eq_true,List.all_eq_true,decide_eq_true_eq,bne_iff_ne,Bool.or_eq_true,beq_iff_eq,Bool.not_eq_true',Bool.and_eq_false_imp]at h
 obtain ⟨⟨⟨h1,h2⟩,h3⟩,h4⟩:=h
 have h5:M.length=X.N.length:=of_decide_eq_true h5
 refine⟨h1,fun x hx hy=> ?_,fun y hy hk=> ?_,fun y hy hk=> ?_,fun x hx hy=> ?_,h4,h5,fun i x k hi hk=> ?_⟩
 · have:=h3 x hx (x,.cell) hy rfl
   simp at this
 · rcases (h2 y hy).1 with z | z
   · exact absurd hk z
   · exact z
 · rcases (h2 y hy).2 with z | z
   · exact absurd hk z
   · exact z
 · have:=h3 x hx (x,.local) hy rfl
   simp at this
 · have hl:i < M.length:=(List.getElem?_eq_some_iff.mp hi).1
   have hl2:i < X.N.length:=by omega
   have e2:X.N[i]? =some X.N[i]:=by simp [hl2]
   have hm:(X.N[i],x) ∈ X.N.zip M:=by
     refine List.mem_of_getElem? (i:=i) ?_
     rw[List.getElem?_zip_eq_some]
     exact⟨e2,hi⟩
   have:=List.all_eq_true.mp h6 _ hm
   rcases Bool.or_eq_true _ _ ▸ this with z | z
   · have z:X.N[i]=x:=by simpa using z
     rw[e2,z]
   · have:=List.all_eq_true.mp z _ hk
     simp at this
noncomputable def qof (scope sc:Scope):Scope :=
 { scope with names:=scope.names.map fun (n,k)=>if (k==.free && sc.kind==.function && sc.names.lookup n==some .cell)then (n,.cell)else (n,k) }
section
variable {X:Cx} {pins:List (Addr × Obj)} {σ:St} {H:Hp} {s:Shared} {ts M:List Str} {scope:Scope} {fp:List Addr}
theorem qav.has (c:qav X ts M scope) (ok:X.Ok):∀ y ∈ scope.names,y.2=.free→∃ a,X.env.cells.lookup y.1=some a:=fun y hy hk=>ok.has y.1 (c.fr y hy hk)
theorem qav.cellIn {x:Str} (h:(relabel scope X.env).names.lookup x=some .cell∨(relabel scope X.env).names.lookup x=some .free):(x,NameKind.free) ∈ scope.names∨(x,NameKind.cell) ∈ scope.names:=by
 rcases h with h | h
 · rcases qcx h with z | ⟨_,z⟩
   · exact .inr z
   · exact .inl z
 · rcases qcx h with z | ⟨z,_⟩
   · exact .inl z
   · cases z
structure q2d (scope:Scope) (C:Addr) (h₁:Heap):Prop where
 empty:∀ x a,(x,a) ∈ cellsFrom (C+1) scope.names []→h₁.IsCell a none∧ @LT.lt Nat _ C a
 apart:(cellsFrom (C+1) scope.names []).Pairwise fun x y=>x.2 ≠ y.2
theorem qam {env:Env} {C:Addr} {x:Str} {a:Addr} (h:(cellsFrom (C+1) scope.names (clo scope env)).lookup x=some a):(x,a) ∈ cellsFrom (C+1) scope.names []∨((cellsFrom (C+1) scope.names []).lookup x=none∧(clo scope env).lookup x=some a):=by
 rw[qad,qc3]at h
 cases e:(cellsFrom (C+1) scope.names []).lookup x with
 | some b =>
   rw[e]at h
   have:b=a:=by simpa using h
   subst this
   exact .inl (PySem.mem_of_lookup e)
 | none =>
   rw[e]at h
   exact .inr ⟨rfl,by simpa using h⟩
theorem Inv.comp (c:qav X ts M scope) (I:Inv X pins σ H s) (hf:∀ b ∈ fp,qed X pins H b) (ho:∀ b ∈ fp,b < s.heap.objs.size) {C:Addr} {h₁:Heap} {t':Nat} (hC:s.heap.objs.size≤C) (hn:h₁.Ns C fun _=>none) (hO:q2d scope C h₁) (k:∀ b u,s.heap.get? b=some u→h₁.get? b=some u) :
   Inv (cxC X ts M scope C fp s H) [] (List.replicate ts.length none++σ) H { s with heap:=h₁,toks:=t' }:=by
 have has:=c.has I.ok
 have sub:∀ x a,(clo scope X.env).lookup x=some a→X.env.cells.lookup x=some a:=fun x a h=>qeg has h
 have low:∀ x a,(clo scope X.env).lookup x=some a→ @LT.lt Nat _ a C:=fun x a h=>by
   obtain ⟨v,q⟩:=I.cell x a (sub x a h)
   have:=q.lt
   exact Nat.lt_of_lt_of_le this hC
 have kept:=I.kept (t':=t') k
 refine⟨⟨I.ok.mod,c.kind,I.ok.glob,I.ok.blt,hC,fun x y a h1 h2=> ?_,fun x hx=> ?_,fun x a hx h=> ?_,I.ok.hd,I.ok.frames,.inl rfl,fun b hb=>⟨?_,fun x a h=> ?_⟩,I.bs,Nat.le_trans I.ok.bsz I.sz,fun b o e hb=> ?_,fun b hb z=> ?_,I.stack,I.stkFree⟩,
   rfl,I.bare,Un.kept k,⟨_,hn,fun i x v h1 h2 h3=> ?_⟩,fun x a h=> ?_,I.hok.fresh hC,fun x a h=> ?_,fun p hp=>by simp [cxC]at hp,I.hok.kept k,?_⟩
 · rcases qam h1 with z1 | ⟨_,z1⟩ <;> rcases qam h2 with z2 | ⟨_,z2⟩
   · exact PySem.name_of_addr hO.apart z1 z2
   · exact absurd (Nat.lt_trans (hO.empty _ _ z1).2 (low _ _ z2)) (Nat.lt_irrefl _)
   · exact absurd (Nat.lt_trans (hO.empty _ _ z2).2 (low _ _ z1)) (Nat.lt_irrefl _)
   · exact I.ok.inj x y a (sub x a z1) (sub y a z2)
 · show ∃ a,(cellsFrom (C+1) scope.names (clo scope X.env)).lookup x=some a
   rw[qad,qc3]
   rcases qav.cellIn hx with z | z
   · obtain ⟨a,e⟩:=qe6 X.env scope.names [] x z
     cases (cellsFrom (C+1) scope.names []).lookup x with
     | some b=>exact⟨b,rfl⟩
     | none=>exact⟨a,e⟩
   · obtain ⟨a,e⟩:=qcm (n:=C+1) z
     exact⟨a,by rw[e];rfl⟩
 · have hx:(scope.names.lookup x==some NameKind.cell)=true:=hx
   have hx:scope.names.lookup x=some NameKind.cell:=by simpa using hx
   obtain ⟨b,e⟩:=qcm (n:=C+1) (PySem.mem_of_lookup hx)
   rcases qam h with z | ⟨z,_⟩
   · exact Nat.le_trans hC (Nat.le_of_lt (hO.empty _ _ z).2)
   · rw[e]at z;cases z
 · exact Nat.ne_of_lt (Nat.lt_of_lt_of_le (ho b hb) hC)
 · rcases qam h with z | ⟨_,z⟩
   · exact Nat.ne_of_gt (Nat.lt_trans (Nat.lt_of_lt_of_le (ho b hb) hC) (hO.empty _ _ z).2)
   · exact(hf b hb).2.2.2.2.1 x a (sub x a z)
 · rcases (hf b hb).2.2.2.1 with z | z
   · exact I.ok.noex b o e z
   · exact absurd (Nat.lt_of_lt_of_le (Heap.lt_size e) (Nat.le_trans I.ok.bsz z)) (Nat.lt_irrefl _)
 · rcases List.mem_cons.mp (I.stkSub b z)with e | e
   · exact(hf b hb).2.1 e
   · exact(hf b hb).2.2.1 e
 · -- a name of the def,seen in the block
   have hi:ts.length≤i:=by
     rcases Nat.lt_or_ge i ts.length with z | z
     · rw[List.getElem?_append_left (by simpa using z),List.getElem?_replicate]at h2
       split at h2 <;> cases h2
     · exact z
   have h0':M[i - ts.length]? =some x:=by
     have h1:(ts++M)[i]? =some x:=h1
     rwa [List.getElem?_append_right hi]at h1
   have h2':σ[i - ts.length]? =some (some v):=by
     rw[List.getElem?_append_right (by simpa using hi)]at h2
     simpa using h2
   have nC:=c.cell x (List.mem_of_getElem? h0')
   have hx:(x,NameKind.free) ∈ scope.names:=by
     rcases h3 with z | z
     · rcases qcx z with q | ⟨q,_⟩
       · exact absurd q (c.own x (List.mem_of_getElem? h0'))
       · cases q
     · rcases qav.cellIn z with q | q
       · exact q
       · exact absurd q nC
   have hk:=c.fr _ hx rfl
   have h1':=c.seen _ x _ h0' hx
   obtain ⟨m,hm,hl⟩:=I.loc
   have vis:Vis X.env.scope x:=by
     rcases hk with z | z
     · exact .inr (.inl z)
     · exact .inr (.inr z)
   obtain ⟨u,r,l⟩:=hl _ x v h1' h2' vis
   refine⟨u,r,.inr ⟨?_,?_⟩⟩
   · rcases h3 with z | z
     · rcases qcx z with q | ⟨q,_⟩
       · exact absurd q (c.own x (List.mem_of_getElem? h0'))
       · cases q
     · exact z
   · rcases l with ⟨l,_⟩ | ⟨_,a,ha,hcell⟩
     · exfalso
       rcases hk with z | z
       · rw[l]at z;cases z
       · rw[l]at z;cases z
     · obtain ⟨a',ha'⟩:=qe6 X.env scope.names [] x hx
       have:X.env.cells.lookup x=some a':=sub x a' ha'
       rw[ha]at this;cases this
       obtain ⟨o,e,d⟩:=hcell
       refine⟨a,?_,o,k _ _ e,d⟩
       show (cellsFrom (C+1) scope.names (clo scope X.env)).lookup x=some a
       rw[qad,qc3]
       cases q:(cellsFrom (C+1) scope.names []).lookup x with
       | some b=>exact absurd (qdt (PySem.mem_of_lookup q)) nC
       | none=>exact ha'
 · rcases qam h with z | ⟨_,z⟩
   · exact⟨none,(hO.empty _ _ z).1⟩
   · obtain ⟨v,o,e,d⟩:=I.cell x a (sub x a z)
     exact⟨v,o,k _ _ e,d⟩
 · rcases qam h with z | ⟨_,z⟩
   · exact I.hok.fresh (Nat.le_trans hC (Nat.le_of_lt (hO.empty _ _ z).2))
   · exact I.freeC x a (sub x a z)
 · show (List.replicate ts.length none++σ).length=(ts++M).length
   rw[List.length_append,List.length_append,List.length_replicate,I.len,c.len]
theorem Inv.comped {H':Hp} {s':Shared} {σ':St} {C D:Addr} {pins':List (Addr × Obj)} {ys:List V} (I:Inv X pins σ H s) (hf:∀ b ∈ fp,qed X pins H b) (J:Inv (cxC X ts M scope C fp s H) pins' σ' H' s') (hD:s.heap.objs.size≤D) (hD0:H' D=none) (hz:ys.length≤sizeLine) {its:List Value} {n:Nat} (rv:Vals ys its)
   (hl:s'.heap.get? D=some { cls:=.type "list",data:=.seq its.toArray n }):Inv X pins σ (upd H' D (.lst ys)) s':=by
 have u:=J.base
 have neD:∀ b o,s.heap.get? b=some o→b ≠ D:=fun b o e=>Nat.ne_of_lt (Nat.lt_of_lt_of_le (Heap.lt_size e) hD)
 have neH:∀ b o,H' b=some o→b ≠ D:=fun b o e z=>by rw[z,hD0]at e;cases e
 refine I.call' (ch:=fp) J.os ⟨u.keep,u.slot,fun b o e n hb=> ?_,u.there,fun b xs e=> ?_,fun b o w e=> ?_,fun b ps e=> ?_⟩ (fun b o e=> ?_) J.bare (fun b hb=>⟨(hf b hb).2.2.2.1,(hf b hb).2.1,(hf b hb).2.2.2.2.1,(hf b hb).2.2.2.2.2⟩)
 · rw[qc (neD b o e)];exact u.free b o e n hb
 · have q:=u.tups b xs e
   rw[qc (neH b _ q)];exact q
 · have q:=u.frzs b o w e
   rw[qc (neH b _ q)];exact q
 · obtain ⟨more,q⟩:=u.tbls b ps e
   exact⟨more,by rw[qc (neH b _ q)];exact q⟩
 · by_cases hb:b=D
   · subst hb
     rw[qi]at e;cases e
     exact⟨hz,its,n,rv,hl⟩
   · rw[qc hb]at e
     refine(J.hok b o e).stay (fun _ _ _ q=>q) (fun c q=> ?_) fun c xs q=> ?_
     · rw[qc (neH c _ q)];exact q
     · rw[qc (neH c _ q)];exact q
end
noncomputable def PF (X:Cx) (ifs:List Expr) (t:TT):Prop :=
 ∀ (pins:List (Addr × Obj)) (s:Shared) (σ:St) (H:Hp) (Q:Bool→Hp→Prop),Inv X pins σ H s→t σ H Q →
   wpAny (model X.prog X.w) X.A (forIn ifs true fun c r=>if r=true then do let ok ← isTrue c X.env (eval c X.env);pure (ForInStep.yield ok)else pure (ForInStep.yield r)) (TP X pins σ Q) X.xe s
noncomputable def tYes:TT:=fun _ H Q=>Q true H
theorem q6l {X:Cx}:PF X [] tYes:=fun _ _ _ H _ I h=>wpAny_tests_nil ⟨H,I,h⟩
theorem q6m {X:Cx} {c:Expr} {t:TT} (h:PT X c t):PF X [c] t:=fun pins s σ H Q I hq=>wpAny_tests_one (h pins s σ H Q I hq)
theorem qpn {prog:Program} {w:World} {A:Around} {R:Result→Shared→Prop} {elt target iter:Expr} {ifs:List Expr} {scope:Scope} {pos:Pos} {it acc:Value} {env:Env} {s:Shared} (I:Nat→Shared→Prop)
   (turn : ∀ n s,I n s→wpAny (model prog w) A (pyNext it) (fun r s₁=>match r with
     | none=>R (.ok .next) s₁
     | some v=>wpAny (model prog w) A (letOwnedTupleGo target it v) (fun _ s₁'=>wpAny (model prog w) A (assign target env v) (fun _ s₂ =>
         wpAny (model prog w) A (forIn ifs true fun c r=>if r=true then do let ok ← isTrue c env (eval c env);pure (ForInStep.yield ok)else pure (ForInStep.yield r)) (fun ok s₃ =>
           if ok=true then wpAny (model prog w) A (eval elt env) (fun x s₄ =>
             wpAny (model prog w) A (call (.builtin "list.append") [acc,x]) (fun _ s₅=>∃ m,m < n∧I m s₅) (fun _ _=>False) s₄) (fun _ _=>False) s₃
           else ∃ m,m < n∧I m s₃) (fun _ _=>False) s₂) (fun _ _=>False) s₁') (fun _ _=>False) s₁) (fun _ _=>False) s)
   (n:Nat) (h:I n s) :
   codeAny (model prog w) A (.compLoop (.ListComp elt [⟨target,iter,ifs,0⟩] scope pos) 0 it acc env) R s:=by
 refine codeAny_loop rfl I (fun n s hI=> ?_) n h
 show wpAny _ A ((compTurn (.ListComp elt [⟨target,iter,ifs,0⟩] scope pos) 0 it acc env).onRaise (fun x=>do noteFrame x env;theTreesLotGoes x)) _ _ s
 refine wpAny_noted ?_
 rw[compTurn_list]
 refine wpAny_bind (wpAny_standAt (wpAny_bind (wpAny_mono (turn n s hI) (fun r s₁ h₁=> ?_) fun _ _ h'=>h'.elim)))
 cases r with
 | none=>exact wpAny_pure h₁
 | some v =>
   refine wpAny_bind (wpAny_mono h₁ (fun _ s₁' h₁'=> ?_) fun _ _ h'=>h'.elim)
   refine wpAny_bind (wpAny_mono h₁' (fun _ s₂ h₂=>wpAny_bind (wpAny_mono h₂ (fun ok s₃ h₃=> ?_) fun _ _ h'=>h'.elim)) fun _ _ h'=>h'.elim)
   cases ok with
   | false=>exact wpAny_pure ⟨rfl,h₃⟩
   | true =>
     exact wpAny_bind (wpAny_bind (wpAny_mono h₃ (fun x s₄ h₄=>wpAny_bind (wpAny_mono h₄ (fun _ s₅ h₅=>wpAny_pure (wpAny_pure ⟨rfl,h₅⟩)) fun _ _ h'=>h'.elim)) fun _ _ h'=>h'.elim))
noncomputable def LcW (J:It) (n:Nat) (g:TG) (tt:TT) (te:TE) (σ:St) (H1:Hp) (Fin:List V→Hp→Prop):Prop :=
 ∃ W : Nat→Nat→List V→Hp→Prop,(∃ m,W 0 m [] H1)∧∀ i m ys H,W i m ys H→ys.length < sizeLine ∧
   ((J.stop i H∧Fin ys H) ∨
    (J.go i H∧∃ N:List V→Hp→Prop,(∀ ys' H',N ys' H'→∃ m',m' < m∧W (i+1) m' ys' H')∧∀ x H',J.yld i H x H'→g x (List.replicate n none++σ) H' fun σ2 H2=>σ2.drop n=σ∧tt σ2 H2 fun c H3 =>
       if c=true then te σ2 H3 fun y H4=>N (ys++[y]) H4 else N ys H3))
noncomputable def tLC (n:Nat) (wi:TI) (g:TG) (tt:TT) (te:TE):TE:=fun σ H Q=>wi σ H fun J H1=>LcW J n g tt te σ H1 fun ys H'=>∀ D,H' D=none→Q (.ref D) (upd H' D (.lst ys))
section
variable {X:Cx} {pins:List (Addr × Obj)} {σ:St} {H:Hp} {s:Shared} {ts M:List Str} {scope:Scope} {fp:List Addr}
theorem qrn {tg iter elt:Expr} {ifs:List Expr} {pos:Pos} {g:TG} {tt:TT} {te:TE} (c:qav X ts M scope) (hc:X.calm=true) (hg:∀ C fp s₀ H₀,PG (cxC X ts M scope C fp s₀ H₀) tg g) (hf:∀ C fp s₀ H₀,PF (cxC X ts M scope C fp s₀ H₀) ifs tt)
   (he:∀ C fp s₀ H₀,PE (cxC X ts M scope C fp s₀ H₀) elt te) {it:Addr} {tn:Nat→Heap→Prop} {J:It} {Fin:List V→Hp→Prop} (I:Inv X pins σ H s) (T:Turn X.prog X.w X.K tg J fp it tn) (t0:tn 0 s.heap) (f0:∀ b ∈ fp,qed X pins H b) (hw:LcW J ts.length g tt te σ H Fin)
   {RR:Value→Addr→Result→Shared→Prop}
   (hRR:∀ (D C:Addr) (H':Hp) (s':Shared) (ys:List V) (m:Str→Option Value),Inv X pins σ (upd H' D (.lst ys)) s'→s'.heap.Ns C m→C ≠ X.env.locals→(∀ x a,X.env.cells.lookup x=some a→a ≠ C)→X.s₀.heap.objs.size≤C→upd H' D (.lst ys) C=none→(∀ p ∈ X.pn++pins,p.1 ≠ C)→H' D=none→Fin ys H'→RR (.ref D) C (.ok .next) s') :
   wpAny (model X.prog X.w) X.A (newList []) (fun acc s₃=>wpAny (model X.prog X.w) X.A (newFunctionEnv scope X.env.globals (clo scope X.env) [] X.env.qual none .none (some X.env)) (fun cenv s₄ =>
     codeAny (model X.prog X.w) X.A (.compStart (.ListComp elt [⟨tg,iter,ifs,0⟩] scope pos) 0 (.ref it) acc { cenv with scope:=relabel scope X.env }) (RR acc cenv.locals) s₄) X.xe s₃) X.xe s:=by
 obtain ⟨W,⟨m0,w0⟩,turn⟩:=hw
 have fpo:∀ b ∈ fp,b < s.heap.objs.size:=fun b hb=>by obtain ⟨o,e,_⟩:=T.obj _ _ t0 b hb;exact Heap.lt_size e
 refine wpAny_newObj_type (qgh ?_)
 dsimp only
 generalize hH2:s.heap.push { cls:=.type "list",dict:=none,data:=.seq ([]:List Value).toArray }=h2
 have hCs:h2.objs.size=s.heap.objs.size+1:=by rw[← hH2,Heap.size_push]
 obtain ⟨C,hCe⟩:∃ C:Nat,h2.objs.size=C:=⟨_,rfl⟩
 obtain ⟨D,hDe⟩:∃ D:Nat,s.heap.objs.size=D:=⟨_,rfl⟩
 have hns₁:=(Heap.Ns.new h2 (.type "dict")).keeps (pushCells_keeps scope.names (h2.push { cls:=.type "dict",data:=.dict #[] }))
 have ok:=cellsFrom_ok scope.names (h2.push { cls:=.type "dict",data:=.dict #[] }) (h2.objs.size+1) [] ⟨fun _ _ hm=>(nomatch hm),List.Pairwise.nil⟩ (by rw[Heap.size_push];exact Nat.le_refl _)
 rw[Heap.size_push]at ok
 rw[hCe]at hns₁ ok ⊢
 rw[hDe]
 rw[hCe,hDe]at hCs
 have hDC:D ≠ C:=by omega
 generalize hh1:pushCells (h2.push { cls:=.type "dict",data:=.dict #[] }) scope.names=h₁ at hns₁ ok ⊢
 have kp:∀ b o,h2.get? b=some o→h₁.get? b=some o:=fun b o e=>by rw[← hh1];exact pushCells_keeps _ _ b o (Heap.get?_push_of_some _ e)
 have old:∀ b u,s.heap.get? b=some u→h₁.get? b=some u:=fun b u e=>kp b u (hH2 ▸ Heap.get?_push_of_some _ e)
 have hacc:h₁.get? D=some { cls:=.type "list",data:=.seq ([]:List Value).toArray 0 }:=by
   refine kp _ _ ?_
   rw[← hH2,← hDe]
   exact Heap.get?_push_size _ rfl
 have hns:h₁.Ns C fun _=>none:=hns₁
 have hO:q2d scope C h₁:=⟨fun x a h=>⟨(ok.empty x a h).1,(ok.empty x a h).2⟩,ok.apart⟩
 have J0:Inv (cxC X ts M scope C fp s H) [] (List.replicate ts.length none++σ) H { s with heap:=h₁,toks:=s.toks }:=I.comp c f0 fpo (by omega) hns hO old
 have hDn:H D=none:=I.hok.fresh (by omega)
 have loop : codeAny (model X.prog X.w) X.A (.compLoop (.ListComp elt [⟨tg,iter,ifs,0⟩] scope pos) 0 (.ref it) (.ref D) (compEnvC scope (cellsFrom (C+1) scope.names (clo scope X.env)) C X.env)) (RR (.ref D) C) { s with heap:=h₁,toks:=s.toks }:=by
   refine qpn (fun n s'=>∃ (i:Nat) (σ':St) (H':Hp) (ys:List V) (its:List Value) (k:Nat),Inv (cxC X ts M scope C fp s H) [] σ' H' s'∧σ'.drop ts.length=σ∧tn i s'.heap∧(∀ b ∈ fp,H' b=none)∧H' D=none∧s'.heap.get? D=some { cls:=.type "list",data:=.seq its.toArray k }∧Vals ys its∧W i n ys H') ?_ m0
     ⟨0,_,H,[],[],0,J0,by rw[List.drop_append,List.drop_of_length_le (by simp)];simp,T.keep _ _ _ t0 fun b _ o e=>old b o e,fun b hb=>(f0 b hb).1,hDn,hacc,.nil,w0⟩
   rintro n s1 ⟨i,σ1,H1,ys,its,k,I1,d1,t1,fr1,hD1,hl1,rv1,w1⟩
   obtain ⟨hz,hturn⟩:=turn i n ys H1 w1
   have nDfp:D ∉ fp:=fun z=>by have: @LT.lt Nat _ D s.heap.objs.size:=fpo D z;omega
   have neC:∀ x a,(cellsFrom (C+1) scope.names (clo scope X.env)).lookup x=some a→a ≠ D:=fun x a h z=>by
     have z: @Eq Nat a D:=z
     rcases qam h with h | ⟨_,h⟩
     · have:=(hO.empty _ _ h).2
       omega
     · obtain ⟨v,q⟩:=I.cell x a (qeg (c.has I.ok) h)
       have: @LT.lt Nat _ a s.heap.objs.size:=q.lt
       omega
   have pinD:∀ {H':Hp} {s':Shared} {obj:Obj},s'.heap.get? D=some obj→H' D=none→(∀ v,obj.data ≠ .cell v)→∀ p ∈ [(D,obj)],s'.heap.get? p.1=some p.2∧H' p.1=none∧p.1 ≠ (cxC X ts M scope C fp s H).env.locals∧p.1 ∉ (cxC X ts M scope C fp s H).fs∧∀ v,p.2.data ≠ .cell v:=by
     intro H' s' obj e1 e2 e3 p hp
     have hp:p=(D,obj):=by simpa using hp
     subst hp
     refine⟨e1,e2,hDC,fun z=> ?_,e3⟩
     have z:D ∈ frs X.stack:=z
     rcases List.mem_cons.mp (I.stkSub D z)with e | e
     · have: @LT.lt Nat _ X.env.locals s.heap.objs.size:=I.lt
       have e: @Eq Nat D X.env.locals:=e
       omega
     · exact I.nofs (a:=D) (by omega) e
   have I1':=I1.pins_of (pinD hl1 hD1 fun v z=>by cases z)
   have fpk:∀ {H':Hp},(∀ b ∈ fp,H' b=none)→∀ b ∈ fp,qed (cxC X ts M scope C fp s H) [(D,{ cls:=.type "list",data:=.seq its.toArray k })] H' b:=fun {H'} fr b hb=>by
     refine⟨fr b hb,fun z=> ?_,I1.ok.exfs b hb,.inl hb,fun x a h=> ?_,fun p hp=> ?_⟩
     · have: @LT.lt Nat _ b s.heap.objs.size:=fpo b hb
       have z: @Eq Nat b C:=z
       omega
     · rcases qam h with h | ⟨_,h⟩
       · have h1:=(hO.empty _ _ h).2
         have h2: @LT.lt Nat _ b s.heap.objs.size:=fpo b hb
         exact Nat.ne_of_gt (by omega)
       · exact(f0 b hb).2.2.2.2.1 x a (qeg (c.has I.ok) h)
     · have hp:p=(D,{ cls:=.type "list",data:=.seq its.toArray k }):=by simpa [cxC]using hp
       subst hp
       rintro rfl
       exact nDfp hb
   rcases hturn with ⟨stop,fin⟩ | ⟨go,N,hN,step⟩
   · refine wpAny_mono (T.done (cxC X ts M scope C fp s H) rfl rfl rfl hc i _ s1 σ1 H1 (fun _ _=>False) I1' (fpk fr1) t1 stop) (fun r s2 ⟨hr,I2⟩=> ?_) fun _ _ z=>z
     subst hr
     have pD:=I2.pin (D,{ cls:=.type "list",data:=.seq its.toArray k }) (by simp)
     obtain ⟨m2,hn2,_⟩:=I2.loc
     refine hRR D C H1 s2 ys m2 (I.comped f0 I2 (by omega) hD1 (by omega) rv1 pD.1) hn2 ?_ (fun x a h=> ?_) ?_ ?_ (fun p hp=> ?_) hD1 fin
     · have: @LT.lt Nat _ X.env.locals s.heap.objs.size:=I.lt
       exact Nat.ne_of_gt (by omega)
     · obtain ⟨v,q⟩:=I.cell x a h
       have: @LT.lt Nat _ a s.heap.objs.size:=q.lt
       exact Nat.ne_of_lt (by omega)
     · have:=I.sz;omega
     · rw[qc (Ne.symm hDC)];exact I2.free
     · have: @LT.lt Nat _ p.1 s.heap.objs.size:=Heap.lt_size (I.pin p hp).1
       exact Nat.ne_of_lt (by omega)
   · refine wpAny_mono (T.item (cxC X ts M scope C fp s H) rfl rfl rfl hc i _ s1 σ1 H1 (fun _ _=>False) I1' (fpk fr1) t1 go) (fun r s2 ⟨u,hr,h2⟩=> ?_) fun _ _ z=>z
     subst hr
     refine wpAny_mono h2 (fun _ s3 ⟨x,H3,I3,r3,y3,t3,fr3⟩=> ?_) fun _ _ z=>z
     have I3':Inv (cxC X ts M scope C fp s H) _ (List.replicate ts.length none++σ) H3 s3:=(I3.pinned (fpk fr3) (T.obj _ _ t3)).weak (by
         have:=I3.len
         have e:σ1.length=(ts++M).length:=I3.len
         rw[List.length_append,List.length_replicate,I.len,e,List.length_append,c.len]) (fun j v e=>by
         have hj:ts.length≤j:=by
           rcases Nat.lt_or_ge j ts.length with z | z
           · rw[List.getElem?_append_left (by simpa using z),List.getElem?_replicate]at e
             split at e <;> cases e
           · exact z
         rw[List.getElem?_append_right (by simpa using hj)]at e
         rw[← d1,List.getElem?_drop]at e
         simp only [List.length_replicate]at e
         rwa [show ts.length+(j - ts.length)=j by omega]at e)
     refine wpAny_mono (hg C fp s H _ s3 _ H3 x u _ I3' r3 (step x H3 y3)) (fun _ s4 ⟨σ4,H4,I4,d4,q4⟩=> ?_) fun _ _ z=>z
     refine wpAny_mono (hf C fp s H _ s4 σ4 H4 _ I4 q4) (fun ok s5 ⟨H5,I5,q5⟩=> ?_) fun _ _ z=>z
     have keepT:∀ {σ7:St} {H7:Hp} {s7:Shared},Inv (cxC X ts M scope C fp s H) ([(D,{ cls:=.type "list",data:=.seq its.toArray k })]++qee fp s3.heap) σ7 H7 s7→tn (i+1) s7.heap∧(∀ b ∈ fp,H7 b=none):=fun {σ7 H7 s7} I7 =>
       ⟨T.keep _ _ _ t3 fun b hb o e=>(I7.pin (b,o) (List.mem_append_right _ (List.mem_append_right _ (qar hb e)))).1,fun b hb=>by
         obtain ⟨o,e,_⟩:=T.obj _ _ t3 b hb
         exact(I7.pin (b,o) (List.mem_append_right _ (List.mem_append_right _ (qar hb e)))).2.1⟩
     cases ok with
     | false =>
       rw[if_neg Bool.false_ne_true]at q5 ⊢
       obtain ⟨m',hm,w'⟩:=hN _ _ q5
       have pD:=I5.pin (D,{ cls:=.type "list",data:=.seq its.toArray k }) (by simp)
       exact⟨m',hm,i+1,σ4,H5,ys,its,k,I5.pins_of (fun p hp=>by simp at hp),d4,(keepT I5).1,(keepT I5).2,pD.2.1,pD.1,rv1,w'⟩
     | true =>
       rw[if_pos rfl]at q5 ⊢
       refine wpAny_mono (he C fp s H _ s5 σ4 H5 _ I5 q5) (fun v s6 ⟨y,H6,I6,r6,q6⟩=> ?_) fun _ _ z=>z
       obtain ⟨m',hm,w'⟩:=hN _ _ q6
       have pD:=I6.pin (D,{ cls:=.type "list",data:=.seq its.toArray k }) (by simp)
       have hlen:=rv1.length
       refine call_meets F.slot_list_append ⟨_,pD.1,rfl⟩ F.entry_list_append (F.args_list_append_2 _ _) (PySem.list_append D its.toArray k v (by rw[List.size_toArray];omega)) ⟨pD.1,?_⟩
       have q:=PySem.IsL.update pD.1 (·.push v)
       rw[show its.toArray.push v=(its++[v]).toArray by simp]at q
       have up:∀ b o,b ≠ D→s6.heap.get? b=some o→(s6.heap.update D (Obj.mapSeq (·.push v))).get? b=some o:=fun b o hb e=>(Heap.get?_update_other s6.heap (Obj.mapSeq (·.push v)) (Ne.symm hb)).trans e
       have I7:Inv (cxC X ts M scope C fp s H) [] σ4 H6 { s6 with heap:=s6.heap.update D (Obj.mapSeq (·.push v)),toks:=s6.toks } :=
         (I6.pins_of (pins':=[]) (fun p hp=>by simp at hp)).turned up pD.2.1 hDC (.inr (by show s.heap.objs.size≤D;omega)) (fun x a h=>neC x a h) (fun p hp=>by simp [cxC]at hp)
       refine⟨m',hm,i+1,σ4,H6,ys++[y],its++[v],_,I7,d4,?_,(keepT I6).2,pD.2.1,q,rv1.append (.cons r6 .nil),w'⟩
       exact T.keep _ _ _ (keepT I6).1 fun b hb o e=>up b o (fun z=>nDfp (z ▸ hb)) e
 exact codeAny_compStart_list loop (T.self _ 0 _ _ _ (T.keep _ _ _ t0 fun b _ o e=>old b o e) loop)
theorem q99 {tg iter elt:Expr} {ifs:List Expr} {pos:Pos} {wi:TI} {g:TG} {tt:TT} {te:TE} (c:qav X ts M scope) (hc:X.calm=true) (hi:PI X tg iter wi) (hg:∀ C fp s₀ H₀,PG (cxC X ts M scope C fp s₀ H₀) tg g) (hf:∀ C fp s₀ H₀,PF (cxC X ts M scope C fp s₀ H₀) ifs tt)
   (he:∀ C fp s₀ H₀,PE (cxC X ts M scope C fp s₀ H₀) elt te) (hs:∀ x,foldedSetIterable iter X.env x=pure x:=by intro _;rfl):PE X (.ListComp elt [⟨tg,iter,ifs,0⟩] scope pos) (tLC ts.length wi g tt te):=by
 intro pins s σ H Q I h
 rw[eval_ListComp]
 refine wpAny_comprehension_free (use:=none) rfl hs (qk2 (c.has I.ok)) c.kind c.loc (thn (hi pins s σ H _ I h) fun v s1 h1=>thn h1 fun itv s2 h2=> ?_)
 obtain ⟨it,fp,tn,J,H2,rfl,I2,T,t0,f0,hw⟩:=h2
 refine qrn (RR:=fun acc C=>compPost (model X.prog X.w) X.A X.xe none (EP X pins σ Q) acc C) c hc hg hf he I2 T t0 f0 hw ?_
 intro D C H' s' ys m I' hn n1 n2 n3 n4 n5 hD fin
 exact⟨m,hn,fun h' hs'=>⟨.ref D,_,I'.turned (t':=s'.toks) (fun b o hb e=>(hs'.2 b hb).trans e) n4 n1 (.inr n3) n2 n5,rfl,fin D hD⟩⟩
theorem qy5 {i:Nat} {x:Str} {tg iter elt:Expr} {ifs:List Expr} {pos pos' spos:Pos} {wi:TI} {g:TG} {tt:TT} {te:TE} (hN:X.N.Nodup) (hix:X.N[i]? =some x) (hx:Loc X.env.scope x) (c:qav X ts M scope) (hc:X.calm=true) (hi:PI X tg iter wi) (hg:∀ C fp s₀ H₀,PG (cxC X ts M scope C fp s₀ H₀) tg g) (hf:∀ C fp s₀ H₀,PF (cxC X ts M scope C fp s₀ H₀) ifs tt)
   (he:∀ C fp s₀ H₀,PE (cxC X ts M scope C fp s₀ H₀) elt te) (hs:∀ x,foldedSetIterable iter X.env x=pure x:=by intro _;rfl) (hsw:swapsWith (.ListComp elt [⟨tg,iter,ifs,0⟩] scope pos) (some (.Name x pos')) spos.line X.env=pure true:=by rfl)
   (hfn:X.fn x=true∨X.env.scope.names.lookup x=some .local:=by first | exact .inl rfl | exact .inr rfl | assumption) :
   PS X (.Assign [.Name x pos'] (.ListComp elt [⟨tg,iter,ifs,0⟩] scope pos) spos) (q1y (tLC ts.length wi g tt te) (qvh i)):=by
 intro pins s σ H Dn I h
 rw[exec_Assign_Name_used _ _ _ _ hsw]
 refine wpAny_bind (wpAny_standAt (wpAny_bind ?_))
 show wpAny _ X.A (do let _ ← comprehension (.ListComp elt [⟨tg,iter,ifs,0⟩] scope pos) scope X.env _ (newList []) false (eval iter X.env) (some (assign (.Name x pos') X.env))) _ _ s
 refine wpAny_bind (wpAny_mono (wpAny_comprehension_free (use:=some (assign (.Name x pos') X.env)) (Q:=fun _ s'=>SP X pins Dn .next s') rfl hs (qk2 (c.has I.ok)) c.kind c.loc
   (thn (hi pins s σ H _ I h) fun v s1 h1=>thn h1 fun itv s2 h2=> ?_)) (fun _ s' hq=>wpAny_pure (wpAny_pure hq)) fun _ _ e=>e)
 obtain ⟨it,fp,tn,J,H2,rfl,I2,T,t0,f0,hw⟩:=h2
 refine qrn (RR:=fun acc C=>compPost (model X.prog X.w) X.A X.xe (some (assign (.Name x pos') X.env)) (fun _ s'=>SP X pins Dn .next s') acc C) c hc hg hf he I2 T t0 f0 hw ?_
 intro D C H' s' ys m I' hn n1 n2 n3 n4 n5 hD fin
 show wpAny _ X.A (assign (.Name x pos') X.env (.ref D)) _ _ _
 refine wpAny_assign_Name (qh7 I' hN hix hx (v:=.ref D) rfl (fun s'' I'' hsb=> ?_) hfn)
 obtain ⟨a,hsb,ha⟩:=hsb
 have hCa:C ≠ a:=by
   rcases ha with rfl | ha
   · exact n1
   · exact(n2 x a ha).symm
 refine⟨m,hn.sameBut hsb hCa,fun h' hs'=>⟨_,_,I''.turned (t':=s''.toks) (fun b o hb e=>(hs'.2 b hb).trans e) n4 n1 (.inr n3) n2 n5,fin D hD⟩⟩
end
theorem qaaa {J:It} {k n:Nat} {g:TG} {tt:TT} {te:TE} {σ:St} {H:Hp} {Fin:List V→Hp→Prop} (Pv:Nat→List V→Hp→Prop) (hk:k < sizeLine) (h0:Pv 0 [] H) (hl:∀ i ys H,i≤k→Pv i ys H→ys.length≤i)
   (stop:∀ ys H,Pv k ys H→J.stop k H) (go:∀ i ys H,i < k→Pv i ys H→J.go i H)
   (hs:∀ i ys H,i < k→Pv i ys H→∀ x H',J.yld i H x H'→g x (List.replicate n none++σ) H' fun σ2 H2=>σ2.drop n=σ∧tt σ2 H2 fun c H3=>if c=true then te σ2 H3 fun y H4=>Pv (i+1) (ys++[y]) H4 else Pv (i+1) ys H3)
   (hd:∀ ys H,Pv k ys H→Fin ys H):LcW J n g tt te σ H Fin:=by
 refine⟨fun i m ys H=>m=k - i∧i≤k∧Pv i ys H,⟨k,by simp,Nat.zero_le _,h0⟩,?_⟩
 rintro i m ys H ⟨rfl,hi,p⟩
 have hz:=hl i ys H hi p
 refine⟨by omega,?_⟩
 by_cases hlt:i < k
 · exact .inr ⟨go i ys H hlt p,Pv (i+1),fun ys' H' q=>⟨_,(by omega:k - (i+1) < k - i),rfl,hlt,q⟩,fun x H' y=>hs i ys H hlt p x H' y⟩
 · have e:i=k:=by omega
   subst e
   exact .inl ⟨stop ys H p,hd ys H p⟩
section
variable {X:Cx} {pins:List (Addr × Obj)} {σ:St} {H:Hp} {s:Shared}
theorem Inv.turnedT {h':Heap} {t':Nat} {ch:List Addr} {vs:List V} {its:List Value} (I:Inv X pins σ H s) (hf:∀ b ∈ ch,qed X pins H b) (k:∀ b o,b ∉ ch→s.heap.get? b=some o→h'.get? b=some o)
   (ht:∀ b ∈ ch,∃ o,h'.get? b=some o) (rv:Vals vs its) (hz:vs.length≤sizeLine) (new:IsTup h' s.heap.objs.size its.toArray):Inv X pins σ (upd H s.heap.objs.size (.tup vs)) { s with heap:=h',toks:=t' }:=by
 have hn:H s.heap.objs.size=none:=I.hok.fresh (Nat.le_refl _)
 have nch:∀ b u,H b=some u→b ∉ ch:=fun b u e z=>by rw[(hf b z).1]at e;cases e
 have np:∀ b o,s.heap.get? b=some o→b ≠ s.heap.objs.size:=fun b o e=>Nat.ne_of_lt (Heap.lt_size e)
 refine I.step (g':=s.gens) (d':=s.drawn) (ch:=ch) (fun b hb=>⟨(hf b hb).2.2.2.1,(hf b hb).2.1,(hf b hb).2.2.2.2.1,(hf b hb).2.2.2.2.2⟩) (fun b o _ _ hc e _=>k b o hc e) (fun b o _ _ hc e _=>⟨o.slots,k b o hc e⟩) (fun b o _ e n=>by rw[qc (np b o e)];exact n)
   (fun b o hc e=>⟨o,k b o hc e⟩) (fun b xs e=>by rw[qc (q9 e hn)];exact e) (fun b o u e=>by rw[qc (q9 e hn)];exact e) (fun b ps e=>⟨#[],by rw[qc (q9 e hn),e];simp⟩) (fun m hm=> ?_) (fun b u e=> ?_) I.bare
 · obtain ⟨o,es,ep,ho,r⟩:=hm
   exact⟨o,es,ep,k _ o (fun z=>(hf _ z).2.1 rfl) ho,r⟩
 · by_cases hb:b=s.heap.objs.size
   · subst hb
     rw[qi]at e;cases e
     exact⟨hz,its,rv,new⟩
   · rw[qc hb]at e
     refine(I.hok b u e).stay (fun c v hc q=>k c v ?_ q) (fun c q=>by rw[qc (q9 q hn)];exact q) fun c xs q=>by rw[qc (q9 q hn)];exact q
     rcases hc with z | z
     · rw[z];exact nch b u e
     · exact nch c _ z
theorem Inv.turnedN {h':Heap} {t':Nat} {ch:List Addr} (I:Inv X pins σ H s) (hf:∀ b ∈ ch,qed X pins H b) (k:∀ b o,b ∉ ch→s.heap.get? b=some o→h'.get? b=some o):Inv X pins σ H { s with heap:=h',toks:=t' }:=by
 have nch:∀ b u,H b=some u→b ∉ ch:=fun b u e z=>by rw[(hf b z).1]at e;cases e
 refine I.step (g':=s.gens) (d':=s.drawn) (ch:=ch) (fun b hb=>⟨(hf b hb).2.2.2.1,(hf b hb).2.1,(hf b hb).2.2.2.2.1,(hf b hb).2.2.2.2.2⟩) (fun b o _ _ hc e _=>k b o hc e) (fun b o _ _ hc e _=>⟨o.slots,k b o hc e⟩) (fun b o _ e n=>n)
   (fun b o hc e=>⟨o,k b o hc e⟩) (fun b xs e=>e) (fun b o u e=>e) (fun b ps e=>⟨#[],by rw[e];simp⟩) (fun m hm=> ?_) (fun b u e=> ?_) I.bare
 · obtain ⟨o,es,ep,ho,r⟩:=hm
   exact⟨o,es,ep,k _ o (fun z=>(hf _ z).2.1 rfl) ho,r⟩
 · refine(I.hok b u e).stay (fun c v hc q=>k c v ?_ q) (fun c q=>q) fun c xs q=>q
   rcases hc with z | z
   · rw[z];exact nch b u e
   · exact nch c _ z
end
noncomputable def Ite (K:PySem.W.Frag) (a:Addr):It :=
 ⟨fun i H=>∃ xs x,SqL K H a xs∧xs[i]? =some x,
  fun i H x H'=>∃ (p:Addr) (y:V),H p=none∧x=.ref p∧H'=upd H p (.tup [.int i,y])∧∀ xs,SqL K H a xs→xs[i]? =some y,
  fun i H=>∃ xs,SqL K H a xs∧xs.length≤i⟩
theorem qxf {P:Program} {w:World} {K:PySem.W.Frag} {elts:List Expr} {k:Nat} {pos:Pos} (a e it:Addr) (hne:e ≠ it) :
   Turn P w K (.Tuple elts k pos) (Ite K a) [e,it] e (fun i h=>(∃ old,IsEnum h e it i old)∧h.IsListIter it a i) where
 mem:=by simp
 obj :=fun i h st b hb=>by
   obtain ⟨⟨old,he⟩,hi⟩:=st
   rcases List.mem_cons.mp hb with rfl | hb
   · exact⟨_,he,fun v z=>by cases z⟩
   · have e:b=it:=by simpa using hb
     subst e
     obtain ⟨o,e,c,d⟩:=hi
     exact⟨o,e,fun v z=>by rw[d]at z;cases z⟩
 keep:=fun i h h' st kk=>by
   obtain ⟨⟨old,he⟩,hi⟩:=st
   exact⟨⟨old,kk e (by simp) _ he⟩,hi.at fun o q=>kk it (by simp) o q⟩
 item := by
   intro X hP hw hK hc i pins s σ H E I hf st hg
   subst hP hw hK
   obtain ⟨⟨old,he⟩,hi⟩:=st
   obtain ⟨xs,x,hq,hx⟩:=hg
   obtain ⟨its,rv,p,hz⟩:=I.list hq
   obtain ⟨u,hu,ru⟩:=rv.get hx
   refine wpAny_pyNext_enum_item he hi p.isList (x:=u) (by simpa using hu) hne fun h1 ho hi1 htup hsz hk=> ?_
   refine⟨_,rfl,wpAny_letOwnedTupleGo_enum ho fun h2 he2 hs2=> ?_⟩
   have nez:s.heap.objs.size ≠ e:=Nat.ne_of_gt (Heap.lt_size he)
   have J:=I.turnedT (h':=h2) (t':=s.toks+1) (vs:=[.int i,x]) (its:=[.int i s.toks,u]) (ch:=[e,it]) hf (fun b o hb q=>(hs2.2 b (fun z=>hb (by simp [z]))).trans (hk b o (fun z=>hb (by simp [z])) (fun z=>hb (by simp [z])) q))
     (fun b hb=>by
       rcases List.mem_cons.mp hb with rfl | hb
       · exact⟨_,he2⟩
       · have z:b=it:=by simpa using hb
         subst z
         obtain ⟨o,q,_⟩:=hi1
         exact⟨o,(hs2.2 b (Ne.symm hne)).trans q⟩) (.cons ⟨_,rfl⟩ (.cons ru .nil)) (by show 2≤sizeLine;decide) ⟨_,(hs2.2 _ nez).trans htup,rfl,_,rfl⟩
   have hn:H s.heap.objs.size=none:=I.hok.fresh (Nat.le_refl _)
   refine⟨.ref s.heap.objs.size,_,J,rfl,⟨_,x,hn,rfl,rfl,fun ys hy=>by rw[I.list_inj hy hq];exact hx⟩,⟨⟨_,he2⟩,?_⟩,fun b hb=> ?_⟩
   · obtain ⟨o,q,r⟩:=hi1
     exact⟨o,(hs2.2 _ (Ne.symm hne)).trans q,r⟩
   · have z:=(hf b hb).1
     rw[qc]
     · exact z
     · rcases List.mem_cons.mp hb with rfl | hb
       · exact Ne.symm nez
       · have z:b=it:=by simpa using hb
         subst z
         obtain ⟨o,q,_⟩:=hi
         exact Nat.ne_of_lt (Heap.lt_size q)
 done:=by
   intro X hP hw hK hc i pins s σ H E I hf st hg
   subst hP hw hK
   obtain ⟨⟨old,he⟩,hi⟩:=st
   obtain ⟨xs,hq,hx⟩:=hg
   obtain ⟨its,rv,p,hz⟩:=I.list hq
   have hl:=rv.length
   exact wpAny_pyNext_enum_end (I.ok.hd hc) he hi p.isList (by simp;omega) fun h' eb=>⟨rfl,I.turnedN (t':=s.toks) hf fun b o hb q=>eb b o (fun z=>hb (by simp [z])) q⟩
 self:=fun _ _ s Q _ st h=>by
   obtain ⟨⟨old,he⟩,hi⟩:=st
   exact wpAny_pyIter_enum he h
section
variable {X:Cx}
noncomputable def qaab (K:PySem.W.Frag) (ta:TA):TI:=fun σ H R=>ta σ H fun vs H1=>∃ a,vs=[.ref a]∧(∃ xs,SqL K H1 a xs)∧R (Ite K a) H1
theorem q2e {elts:List Expr} {k:Nat} {pos':Pos} {a:Expr} {ta:TA} {p pos:Pos} (hg:Gl X "enumerate") (hm:X.mg "enumerate"=none) (ha:PA X [a] ta) (hs:starEach [a] X.env=[(false,eval a X.env)]:=by rfl) :
   PI X (.Tuple elts k pos') (.Call (.Name "enumerate" p) [a] [] pos) (qaab X.K ta):=by
 intro pins s σ H R I h
 refine Call_ (qgf I hg hm qpm (PyProof.Rows.callWith_type1 (thn (ha pos pins s σ H _ I h) fun us s1 ⟨vs,H1,I1,r1,q1⟩=> ?_) hs rfl))
 obtain ⟨l,e,⟨xs,hq⟩,q⟩:=q1
 subst e
 obtain ⟨u,rfl,ru⟩:=r1.one
 cases ru
 obtain ⟨its,rv,pl,hz⟩:=I1.list hq
 refine call_enumerate_list pl.isList fun h' he hi hsz hk=> ?_
 refine wpAny_pyIter_enum he ?_
 have hne:s1.heap.objs.size+1 ≠ s1.heap.objs.size:=Nat.succ_ne_self _
 have fr:∀ b,s1.heap.objs.size≤b→H1 b=none:=fun b hb=>I1.hok.fresh hb
 refine⟨_,[s1.heap.objs.size+1,s1.heap.objs.size],_,_,H1,rfl,I1.kept (t':=s1.toks) hk,qxf l _ _ hne,⟨⟨_,he⟩,hi⟩,fun b hb=> ?_,q⟩
 have hb':s1.heap.objs.size≤b:=by
   rcases List.mem_cons.mp hb with rfl | hb
   · exact Nat.le_succ _
   · have z:b=s1.heap.objs.size:=by simpa using hb
     subst z;exact Nat.le_refl _
 exact I1.fpOk hb' (fr b hb')
end
noncomputable def qz (b:Bool) (h:Heap) (it l:Addr) (i:Nat):Prop:=if b=true then h.IsListIter it l i else h.IsTupleIter it l i
noncomputable def qcq (b:Bool) (h:Heap) (l:Addr) (items:Array Value):Prop:=if b=true then h.IsList l items else h.IsTuple l items
theorem qz.at' {b:Bool} {h h':Heap} {it l:Addr} {i:Nat} (x:qz b h it l i) (k:∀ o,h.get? it=some o→h'.get? it=some o):qz b h' it l i:=by
 cases b with
 | true=>exact Heap.IsListIter.at (show h.IsListIter it l i from x) k
 | false=>exact Heap.IsTupleIter.at (show h.IsTupleIter it l i from x) k
theorem qz.here {b:Bool} {h:Heap} {it l:Addr} {i:Nat} (x:qz b h it l i):∃ o,h.get? it=some o∧∀ v,o.data ≠ .cell v:=by
 cases b with
 | true =>
   obtain ⟨o,e,c,d⟩:=(show h.IsListIter it l i from x)
   exact⟨o,e,fun v z=>by rw[d]at z;cases z⟩
 | false =>
   obtain ⟨o,e,c,d⟩:=(show h.IsTupleIter it l i from x)
   exact⟨o,e,fun v z=>by rw[d]at z;cases z⟩
theorem qcq.at' {b:Bool} {h h':Heap} {l:Addr} {items:Array Value} (x:qcq b h l items) (k:∀ o,h.get? l=some o→h'.get? l=some o):qcq b h' l items:=by
 cases b with
 | true=>obtain ⟨o,e,r⟩:=(show h.IsList l items from x);exact⟨o,k o e,r⟩
 | false=>obtain ⟨o,e,r⟩:=(show h.IsTuple l items from x);exact⟨o,k o e,r⟩
section
variable {prog:Program} {w:World} {A:Around} {E:Value→Shared→Prop} {s:Shared}
theorem qhe {it l:Addr} {i:Nat} {items:Array Value} {x:Value} {Q:Value→Shared→Prop} (hit:s.heap.IsTupleIter it l i) (hl:s.heap.IsTuple l items) (hx:items[i]? =some x)
   (hQ:∀ h',h'.IsTupleIter it l (i+1)→Heap.SameBut it s.heap h'→Q x { s with heap:=h' }):wpAny (model prog w) A (Builtin.SmallTypes.nextOf (.ref it)) Q E s:=by
 obtain ⟨o,ho,hc,hd⟩:=id hit
 obtain ⟨ol,hol,_,nl,hdl⟩:=hl
 unfold Builtin.SmallTypes.nextOf
 refine wpAny_bind (wpAny_callSpecial?_slot (name:=Str.ofString "__next__") hit.typeIs F.slot_tuple_iterator_next (wpAny_call_entry F.slot_tuple_iterator_next hit.typeIs F.entry_tuple_iterator_next ?_ (F.args_tuple_iterator_next_1 _)))
 show wpAny _ _ (field (.ref it) 0 >>= _) _ _ s
 refine wpAny_bind (wpAny_field ho hd (x:=.ref l) rfl ?_)
 show wpAny _ _ (if (Value.ref l==Value.none)=true then _ else _) _ _ s
 rw[if_neg (by simp:¬ ((Value.ref l==Value.none)=true))]
 show wpAny _ _ (field (.ref it) 1 >>= _) _ _ s
 refine wpAny_bind (wpAny_field ho hd (x:=.int i 0) rfl ?_)
 show wpAny _ _ (seqItems? (.ref l) >>= _) _ _ s
 refine wpAny_bind (wpAny_seqItems hol hdl ?_)
 simp only [Int.toNat_natCast,hx]
 refine wpAny_bind (wpAny_setField ho hd (by simp) (wpAny_pure ⟨x,rfl,wpAny_pure (hQ _ ?_ (Heap.SameBut.update ..))⟩))
 exact⟨_,Heap.get?_update_self _ ho (Obj.isFreed_of_fields (Obj.data_mapFields hd _)),(Obj.cls_mapFields ..).trans hc,by rw[Obj.data_mapFields hd];simp [rawInt]⟩
end
section
variable {prog:Program} {w:World} {A:Around} {E:Value→Shared→Prop} {s:Shared}
theorem qic {it l:Addr} {i:Nat} {items:Array Value} {Q:Value→Shared→Prop} (hh:A.handled=none) (hit:s.heap.IsTupleIter it l i) (hl:s.heap.IsTuple l items) (hx:items[i]? =none)
   (hE:∀ h' e,Heap.ExtBut it s.heap h'→(∃ o,h'.get? e=some o∧o.cls=.type "StopIteration")→E (.ref e) { s with heap:=h' }):wpAny (model prog w) A (Builtin.SmallTypes.nextOf (.ref it)) Q E s:=by
 obtain ⟨o,ho,hc,hd⟩:=id hit
 obtain ⟨ol,hol,_,nl,hdl⟩:=hl
 unfold Builtin.SmallTypes.nextOf
 refine wpAny_bind (wpAny_callSpecial?_slot (name:=Str.ofString "__next__") hit.typeIs F.slot_tuple_iterator_next (wpAny_call_entry F.slot_tuple_iterator_next hit.typeIs F.entry_tuple_iterator_next ?_ (F.args_tuple_iterator_next_1 _)))
 show wpAny _ _ (field (.ref it) 0 >>= _) _ _ s
 refine wpAny_bind (wpAny_field ho hd (x:=.ref l) rfl ?_)
 show wpAny _ _ (if (Value.ref l==Value.none)=true then _ else _) _ _ s
 rw[if_neg (by simp:¬ ((Value.ref l==Value.none)=true))]
 show wpAny _ _ (field (.ref it) 1 >>= _) _ _ s
 refine wpAny_bind (wpAny_field ho hd (x:=.int i 0) rfl ?_)
 show wpAny _ _ (seqItems? (.ref l) >>= _) _ _ s
 refine wpAny_bind (wpAny_seqItems hol hdl ?_)
 simp only [Int.toNat_natCast,hx]
 refine wpAny_bind (wpAny_rule (wpAny_bind (wpAny_setField ho hd (by simp) ?_)))
 show wpAny _ _ (newExc (.type "StopIteration") [] >>= _) _ _ _
 refine wpAny_bind ?_
 simp only [newExc,newTuple]
 refine wpAny_bind (wpAny_newObj_type ?_ (by size_fits))
 refine wpAny_bind (m:=firstArgMember _ _) (wpAny_of_eq (a:=Value.none) (by first | rfl | (simp only [firstArgMember];rfl)) ?_)
 refine wpAny_newObj_type ?_ (by size_fits)
 simp only [raiseNew]
 refine wpAny_bind (wpAny_handled ?_)
 first | rw[show A.in1.handled=none from hh] | rw[hh]
 refine wpAny_bind (wpAny_pure (wpAny_throw ?_))
 exact hE _ _ (((Heap.SameBut.update ..).extBut.push _).push _) ⟨_,Heap.get?_push_size _ rfl,rfl⟩
theorem qe7 {b:Bool} {it l:Addr} {i:Nat} {items:Array Value} {x:Value} {Q:Value→Shared→Prop} (hit:qz b s.heap it l i) (hl:qcq b s.heap l items) (hx:items[i]? =some x)
   (hQ:∀ h',qz b h' it l (i+1)→Heap.SameBut it s.heap h'→Q x { s with heap:=h' }):wpAny (model prog w) A (Builtin.SmallTypes.nextOf (.ref it)) Q E s:=by
 cases b with
 | true=>exact wpAny_nextOf_list_item (show s.heap.IsListIter it l i from hit) (show s.heap.IsList l items from hl) hx fun h' a b=>hQ h' a b
 | false=>exact qhe (show s.heap.IsTupleIter it l i from hit) (show s.heap.IsTuple l items from hl) hx fun h' a b=>hQ h' a b
theorem qk3 {b:Bool} {it l:Addr} {i:Nat} {items:Array Value} {Q:Value→Shared→Prop} (hh:A.handled=none) (hit:qz b s.heap it l i) (hl:qcq b s.heap l items) (hx:items[i]? =none)
   (hE:∀ h' e,Heap.ExtBut it s.heap h'→(∃ o,h'.get? e=some o∧o.cls=.type "StopIteration")→E (.ref e) { s with heap:=h' }):wpAny (model prog w) A (Builtin.SmallTypes.nextOf (.ref it)) Q E s:=by
 cases b with
 | true=>exact wpAny_nextOf_list_end hh (show s.heap.IsListIter it l i from hit) (show s.heap.IsList l items from hl) hx hE
 | false=>exact qic hh (show s.heap.IsTupleIter it l i from hit) (show s.heap.IsTuple l items from hl) hx hE
theorem qk4 {b1 b2:Bool} {z TI TO i1 i2 l1 l2:Addr} {k1 k2:Nat} {xs ys:Array Value} {x y a b:Value} {Q:Value→Shared→Prop} (D:ZipApart z TI TO i1 i2 l1 l2)
   (hz:IsZip s.heap z TI TO .none) (hTI:IsPair s.heap TI (.ref i1) (.ref i2)) (hTO:IsPair s.heap TO a b) (h1:qz b1 s.heap i1 l1 k1) (h2:qz b2 s.heap i2 l2 k2) (hl1:qcq b1 s.heap l1 xs) (hl2:qcq b2 s.heap l2 ys) (hx:xs[k1]? =some x) (hy:ys[k2]? =some y)
   (hQ:∀ h',IsZip h' z TI TO (rawInt s.heap.objs.size)→IsPair h' TO x y→qz b1 h' i1 l1 (k1+1)→qz b2 h' i2 l2 (k2+1)→IsPair h' s.heap.objs.size x y→h'.objs.size=s.heap.objs.size+1 →
     (∀ c o,c ≠ z→c ≠ TO→c ≠ i1→c ≠ i2→s.heap.get? c=some o→h'.get? c=some o)→Q (.ref s.heap.objs.size) { s with heap:=h' }) :
   wpAny (model prog w) A (Builtin.«zip.__next__» ⟨[.ref z],[]⟩) (fun fin s'=>∃ v,fin=.done (.ret v)∧Q v s') E s:=by
 show wpAny _ _ (field (.ref z) 2 >>= _) _ _ _
 refine wpAny_bind (wpAny_field hz rfl (x:=.bool false) rfl ?_)
 show wpAny _ _ (field (.ref z) 3 >>= _) _ _ _
 refine wpAny_bind (wpAny_field hz rfl (x:=.ref TI) rfl ?_)
 refine wpAny_bind (wpAny_seqItems hTI rfl ?_)
 show wpAny _ _ (Builtin.SmallTypes.ownedTupleIsFree (.ref z) >>= _) _ _ _
 refine wpAny_bind ?_
 unfold Builtin.SmallTypes.ownedTupleIsFree
 refine wpAny_bind (wpAny_field hz rfl (x:=.none) rfl (wpAny_pure ?_))
 simp only [if_true]
 refine wpAny_bind (wpAny_rule ?_)
 refine wpAny_bind (wpAny_field hz rfl (x:=.ref TO) rfl ?_)
 refine wpAny_bind (wpAny_setField_rec hz (by simp) fun h₁ hz₁ hs₁=> ?_)
 replace hz₁:IsZip h₁ z TI TO .ellipsis:=hz₁
 refine wpAny_bind ?_
 simp only [List.zipIdx_cons,List.zipIdx_nil,List.forIn_cons,List.forIn_nil]
 refine wpAny_bind (wpAny_bind (wpAny_onRaise ?_))
 show wpAny _ _ (Builtin.SmallTypes.nextOf (.ref i1) >>= _) _ _ _
 refine wpAny_bind (qe7 (h1.at' fun o e=>hs₁.extBut _ _ D.i1z e) (hl1.at' fun o e=>hs₁.extBut _ _ D.l1z e) hx fun h₂ h1₂ hs₂=>wpAny_pure ?_)
 have hTO₂:IsPair h₂ TO a b:=hs₂.extBut _ _ D.TOi1 (hs₁.extBut _ _ D.TOz hTO)
 refine wpAny_bind (wpAny_seqItems hTO₂ rfl ?_)
 refine wpAny_bind (wpAny_updateSeq_pair hTO₂ fun h₃ hTO₃ hs₃=> ?_)
 replace hTO₃:IsPair h₃ TO x b:=hTO₃
 refine wpAny_bind (wpAny_letGo (wpAny_pure ?_))
 refine wpAny_bind (wpAny_bind (wpAny_onRaise ?_))
 show wpAny _ _ (Builtin.SmallTypes.nextOf (.ref i2) >>= _) _ _ _
 refine wpAny_bind (qe7 (h2.at' fun o e=>hs₃.extBut _ _ D.TOi2.symm (hs₂.extBut _ _ D.i12.symm (hs₁.extBut _ _ D.i2z e))) (hl2.at' fun o e=>hs₃.extBut _ _ D.l2TO (hs₂.extBut _ _ D.l2i1 (hs₁.extBut _ _ D.l2z e))) hy fun h₄ h2₄ hs₄=>wpAny_pure ?_)
 have hTO₄:IsPair h₄ TO x b:=hs₄.extBut _ _ D.TOi2 hTO₃
 refine wpAny_bind (wpAny_seqItems hTO₄ rfl ?_)
 refine wpAny_bind (wpAny_updateSeq_pair hTO₄ fun h₅ hTO₅ hs₅=> ?_)
 replace hTO₅:IsPair h₅ TO x y:=hTO₅
 refine wpAny_bind (wpAny_letGo (wpAny_pure (wpAny_pure ?_)))
 refine wpAny_bind (wpAny_seqItems hTO₅ rfl ?_)
 refine wpAny_bind (wpAny_newTuple ?_)
 have hsz:h₅.objs.size=s.heap.objs.size:=by rw[hs₅.1,hs₄.1,hs₃.1,hs₂.1,hs₁.1]
 have hz₅:IsZip h₅ z TI TO .ellipsis:=hs₅.extBut _ _ D.TOz.symm (hs₄.extBut _ _ D.i2z.symm (hs₃.extBut _ _ D.TOz.symm (hs₂.extBut _ _ D.i1z.symm hz₁)))
 have hk₅:∀ c o,c ≠ z→c ≠ TO→c ≠ i1→c ≠ i2→s.heap.get? c=some o→h₅.get? c=some o:=fun c o c1 c2 c3 c4 e=>hs₅.extBut _ _ c2 (hs₄.extBut _ _ c4 (hs₃.extBut _ _ c2 (hs₂.extBut _ _ c3 (hs₁.extBut _ _ c1 e))))
 have h1₅:qz b1 h₅ i1 l1 (k1+1):=h1₂.at' fun o e=>hs₅.extBut _ _ D.TOi1.symm (hs₄.extBut _ _ D.i12 (hs₃.extBut _ _ D.TOi1.symm e))
 have h2₅:qz b2 h₅ i2 l2 (k2+1):=h2₄.at' fun o e=>hs₅.extBut _ _ D.TOi2.symm e
 have hzlt:z < h₅.objs.size:=Heap.lt_size hz₅
 show wpAny _ _ (Builtin.SmallTypes.ownedTupleHandOut (.ref z) (.ref h₅.objs.size) >>= _) _ _ _
 refine wpAny_bind ?_
 unfold Builtin.SmallTypes.ownedTupleHandOut
 have hz₆:IsZip (h₅.push { cls:=.type "tuple",data:=.seq #[x,y] }) z TI TO .ellipsis:=Heap.get?_push_of_some _ hz₅
 refine wpAny_bind (wpAny_setField_rec hz₆ (by simp) fun h₇ hz₇ hs₇=> ?_)
 replace hz₇:IsZip h₇ z TI TO (rawInt h₅.objs.size):=hz₇
 refine wpAny_setField_rec hz₇ (by simp) fun h₈ hz₈ hs₈=> ?_
 replace hz₈:IsZip h₈ z TI TO (rawInt h₅.objs.size):=hz₈
 have up:∀ c o,c ≠ z→h₅.get? c=some o→h₈.get? c=some o:=fun c o c1 e=>hs₈.extBut _ _ c1 (hs₇.extBut _ _ c1 (Heap.get?_push_of_some _ e))
 have hT₈:IsPair h₈ h₅.objs.size x y:=hs₈.extBut _ _ (Nat.ne_of_gt hzlt) (hs₇.extBut _ _ (Nat.ne_of_gt hzlt) (Heap.get?_push_size _ rfl))
 have hz8:h₈.objs.size=h₅.objs.size+1:=by rw[hs₈.1,hs₇.1,Heap.size_push]
 rw[hsz]at hz₈ hT₈ hz8
 refine wpAny_pure ⟨_,rfl,?_⟩
 show Q (.ref h₅.objs.size) _
 rw[hsz]
 exact hQ h₈ hz₈ (up _ _ D.TOz hTO₅) (h1₅.at' fun o e=>up _ o D.i1z e) (h2₅.at' fun o e=>up _ o D.i2z e) hT₈ hz8 fun c o c1 c2 c3 c4 e=>up c o c1 (hk₅ c o c1 c2 c3 c4 e)
theorem qm7 {b1 b2:Bool} {z TI TO i1 i2 l1 l2:Addr} {k1 k2:Nat} {xs ys:Array Value} {a b:Value} {Q:Fin→Shared→Prop} (hh:A.handled=none) (D:ZipApart z TI TO i1 i2 l1 l2)
   (hz:IsZip s.heap z TI TO .none) (hTI:IsPair s.heap TI (.ref i1) (.ref i2)) (hTO:IsPair s.heap TO a b) (h1:qz b1 s.heap i1 l1 k1) (h2:qz b2 s.heap i2 l2 k2) (hl1:qcq b1 s.heap l1 xs) (hl2:qcq b2 s.heap l2 ys) (hend:xs[k1]? =none∨ys[k2]? =none)
   (hE:∀ h' e,(∀ c o,c ≠ z→c ≠ TO→c ≠ i1→c ≠ i2→s.heap.get? c=some o→h'.get? c=some o)→(∃ o,h'.get? e=some o∧o.cls=.type "StopIteration")→E (.ref e) { s with heap:=h' }) :
   wpAny (model prog w) A (Builtin.«zip.__next__» ⟨[.ref z],[]⟩) Q E s:=by
 show wpAny _ _ (field (.ref z) 2 >>= _) _ _ _
 refine wpAny_bind (wpAny_field hz rfl (x:=.bool false) rfl ?_)
 show wpAny _ _ (field (.ref z) 3 >>= _) _ _ _
 refine wpAny_bind (wpAny_field hz rfl (x:=.ref TI) rfl ?_)
 refine wpAny_bind (wpAny_seqItems hTI rfl ?_)
 show wpAny _ _ (Builtin.SmallTypes.ownedTupleIsFree (.ref z) >>= _) _ _ _
 refine wpAny_bind ?_
 unfold Builtin.SmallTypes.ownedTupleIsFree
 refine wpAny_bind (wpAny_field hz rfl (x:=.none) rfl (wpAny_pure ?_))
 simp only [if_true]
 refine wpAny_bind (wpAny_rule ?_)
 refine wpAny_bind (wpAny_field hz rfl (x:=.ref TO) rfl ?_)
 refine wpAny_bind (wpAny_setField_rec hz (by simp) fun h₁ hz₁ hs₁=> ?_)
 replace hz₁:IsZip h₁ z TI TO .ellipsis:=hz₁
 refine wpAny_bind ?_
 simp only [List.zipIdx_cons,List.zipIdx_nil,List.forIn_cons,List.forIn_nil]
 refine wpAny_bind (wpAny_bind (wpAny_onRaise ?_))
 show wpAny _ _ (Builtin.SmallTypes.nextOf (.ref i1) >>= _) _ _ _
 have h1₁:=h1.at' (h':=h₁) fun o e=>hs₁.extBut _ _ D.i1z e
 have hl1₁:=hl1.at' (h':=h₁) fun o e=>hs₁.extBut _ _ D.l1z e
 cases hx:xs[k1]? with
 | none =>
   refine wpAny_bind (qk3 hh h1₁ hl1₁ hx fun h₂ e hs₂ he=> ?_)
   obtain ⟨oe,hoe,hce⟩:=he
   have hz₂:IsZip h₂ z TI TO .ellipsis:=hs₂ _ _ D.i1z.symm hz₁
   have hez:e ≠ z:=fun x=>by subst x;rw[hz₂]at hoe;cases hoe;simp at hce
   exact wpAny_setField_rec hz₂ (by simp) fun h₃ _ hs₃=>hE h₃ e (fun c o c1 _ c3 _ x=>hs₃.extBut _ _ c1 (hs₂ _ _ c3 (hs₁.extBut _ _ c1 x))) ⟨oe,hs₃.extBut _ _ hez hoe,hce⟩
 | some x =>
   have hy:ys[k2]? =none:=by rcases hend with h | h;rw[hx]at h;cases h;exact h
   refine wpAny_bind (qe7 h1₁ hl1₁ hx fun h₂ h1₂ hs₂=>wpAny_pure ?_)
   have hTO₂:IsPair h₂ TO a b:=hs₂.extBut _ _ D.TOi1 (hs₁.extBut _ _ D.TOz hTO)
   refine wpAny_bind (wpAny_seqItems hTO₂ rfl ?_)
   refine wpAny_bind (wpAny_updateSeq_pair hTO₂ fun h₃ hTO₃ hs₃=> ?_)
   refine wpAny_bind (wpAny_letGo (wpAny_pure ?_))
   refine wpAny_bind (wpAny_bind (wpAny_onRaise ?_))
   show wpAny _ _ (Builtin.SmallTypes.nextOf (.ref i2) >>= _) _ _ _
   refine wpAny_bind (qk3 hh (h2.at' fun o e=>hs₃.extBut _ _ D.TOi2.symm (hs₂.extBut _ _ D.i12.symm (hs₁.extBut _ _ D.i2z e))) (hl2.at' fun o e=>hs₃.extBut _ _ D.l2TO (hs₂.extBut _ _ D.l2i1 (hs₁.extBut _ _ D.l2z e))) hy fun h₄ e hs₄ he=> ?_)
   obtain ⟨oe,hoe,hce⟩:=he
   have hz₄:IsZip h₄ z TI TO .ellipsis:=hs₄ _ _ D.i2z.symm (hs₃.extBut _ _ D.TOz.symm (hs₂.extBut _ _ D.i1z.symm hz₁))
   have hez:e ≠ z:=fun x=>by subst x;rw[hz₄]at hoe;cases hoe;simp at hce
   exact wpAny_setField_rec hz₄ (by simp) fun h₅ _ hs₅=>hE h₅ e (fun c o c1 c2 c3 c4 x=>hs₅.extBut _ _ c1 (hs₄ _ _ c4 (hs₃.extBut _ _ c2 (hs₂.extBut _ _ c3 (hs₁.extBut _ _ c1 x))))) ⟨oe,hs₅.extBut _ _ hez hoe,hce⟩
theorem qro {b:Bool} {l:Addr} {items:Array Value} {Q:Value→Shared→Prop} (hl:qcq b s.heap l items)
   (hQ:Q (.ref s.heap.objs.size) { s with heap:=s.heap.push { cls:=.type (if b=true then "list_iterator" else "tuple_iterator"),data:=.fields #[.ref l,.int 0 0] } }):wpAny (model prog w) A (pyIter (.ref l)) Q E s:=by
 cases b with
 | true=>exact wpAny_pyIter_list (show s.heap.IsList l items from hl) hQ
 | false=>exact wpAny_pyIter_tuple (show s.heap.IsTuple l items from hl) hQ
theorem qz.new {b:Bool} {h:Heap} {l:Addr}:qz b (h.push { cls:=.type (if b=true then "list_iterator" else "tuple_iterator"),data:=.fields #[.ref l,.int 0 0] }) h.objs.size l 0:=by
 cases b with
 | true=>exact⟨_,Heap.get?_push_size _ rfl,rfl,rfl⟩
 | false=>exact⟨_,Heap.get?_push_size _ rfl,rfl,rfl⟩
theorem qcq.push {b:Bool} {h:Heap} {l:Addr} {items:Array Value} {o:Obj} (x:qcq b h l items):qcq b (h.push o) l items:=x.at' fun _ e=>Heap.get?_push_of_some _ e
noncomputable abbrev qy6 (b1:Bool) (h:Heap) (l1:Addr):Heap:=h.push { cls:=.type (if b1=true then "list_iterator" else "tuple_iterator"),data:=.fields #[.ref l1,.int 0 0] }
noncomputable abbrev qy7 (b1 b2:Bool) (h:Heap) (l1 l2:Addr):Heap:=(qy6 b1 h l1).push { cls:=.type (if b2=true then "list_iterator" else "tuple_iterator"),data:=.fields #[.ref l2,.int 0 0] }
noncomputable abbrev q2f (b1 b2:Bool) (h:Heap) (l1 l2:Addr):Heap:=(qy7 b1 b2 h l1 l2).push { cls:=.type "tuple",data:=.seq #[.ref h.objs.size,.ref (qy6 b1 h l1).objs.size] }
noncomputable abbrev q2g (b1 b2:Bool) (h:Heap) (l1 l2:Addr):Heap:=(q2f b1 b2 h l1 l2).push { cls:=.type "tuple",data:=.seq #[.none,.none] }
noncomputable abbrev qui (b1 b2:Bool) (h:Heap) (l1 l2:Addr):Heap:=(q2g b1 b2 h l1 l2).push { cls:=.type "zip",data:=.fields #[.none,.bool false,.bool false,.ref (qy7 b1 b2 h l1 l2).objs.size,.ref (q2f b1 b2 h l1 l2).objs.size] }
theorem qk5 (b1 b2:Bool) (l1 l2:Addr) (xs ys:Array Value) :
   Meets (Builtin.«zip.__new__» ⟨[.type "zip",.ref l1,.ref l2],[]⟩) (fun _ R s=>qcq b1 s.heap l1 xs∧qcq b2 s.heap l2 ys ∧
     R (.ok (.ret (.ref (q2g b1 b2 s.heap l1 l2).objs.size))) { s with heap:=qui b1 b2 s.heap l1 l2 }) :=
 .of_wp fun prog w A R s h=>by
   obtain ⟨hp,g,d,tk,os⟩:=s;obtain ⟨hl1,hl2,h⟩:=h
   have hsub:=sub_zip
   have hL1:qcq b1 (Shared.heap ⟨hp,g,d,tk,os⟩) l1 xs:=hl1
   have hL2:qcq b2 (Shared.heap ⟨qy6 b1 hp l1,g,d,tk,os⟩) l2 ys:=qcq.push hl2
   wp_walk using qro hL1,qro hL2
   exact⟨_,rfl,h⟩
end
section
variable {prog:Program} {w:World} {A:Around} {E:Value→Shared→Prop} {s:Shared}
theorem qxg {b1 b2:Bool} {l1 l2:Addr} {xs ys:Array Value} {Q:Value→Shared→Prop} (hl1:qcq b1 s.heap l1 xs) (hl2:qcq b2 s.heap l2 ys)
   (h:∀ h',IsZip h' (s.heap.objs.size+4) (s.heap.objs.size+2) (s.heap.objs.size+3) .none→IsPair h' (s.heap.objs.size+2) (.ref s.heap.objs.size) (.ref (s.heap.objs.size+1)) →
     IsPair h' (s.heap.objs.size+3) .none .none→qz b1 h' s.heap.objs.size l1 0→qz b2 h' (s.heap.objs.size+1) l2 0 →
     (∀ c o,s.heap.get? c=some o→h'.get? c=some o)→Q (.ref (s.heap.objs.size+4)) { s with heap:=h' }) :
   wpAny (model prog w) A (call (.type "zip") [.ref l1,.ref l2]) Q E s:=by
 refine callType_new F.called_zip (by decide) (F.typeCall_zip_2 _ _) (F.newCall_zip_2 _ _) (fun obj=>F.args_object_init_3 obj _ _) F.entry_zip_new (qk5 b1 b2 l1 l2 xs ys) ⟨hl1,hl2,?_⟩
 have z1:(qy6 b1 s.heap l1).objs.size=s.heap.objs.size+1:=Heap.size_push ..
 have z2:(qy7 b1 b2 s.heap l1 l2).objs.size=s.heap.objs.size+2:=by rw[Heap.size_push,z1]
 have z3:(q2f b1 b2 s.heap l1 l2).objs.size=s.heap.objs.size+3:=by rw[Heap.size_push,z2]
 have z4:(q2g b1 b2 s.heap l1 l2).objs.size=s.heap.objs.size+4:=by rw[Heap.size_push,z3]
 have g5:(qui b1 b2 s.heap l1 l2).get? (q2g b1 b2 s.heap l1 l2).objs.size=some _:=Heap.get?_push_size _ rfl
 have g4:(qui b1 b2 s.heap l1 l2).get? (q2f b1 b2 s.heap l1 l2).objs.size=some _:=Heap.get?_push_of_some _ (Heap.get?_push_size _ rfl)
 have g3:(qui b1 b2 s.heap l1 l2).get? (qy7 b1 b2 s.heap l1 l2).objs.size=some _:=Heap.get?_push_of_some _ (Heap.get?_push_of_some _ (Heap.get?_push_size _ rfl))
 have up2:∀ c o,(qy7 b1 b2 s.heap l1 l2).get? c=some o→(qui b1 b2 s.heap l1 l2).get? c=some o:=fun c o e=>Heap.get?_push_of_some _ (Heap.get?_push_of_some _ (Heap.get?_push_of_some _ e))
 have g2:qz b2 (qui b1 b2 s.heap l1 l2) (qy6 b1 s.heap l1).objs.size l2 0:=qz.new.at' fun o e=>up2 _ o e
 have g1:qz b1 (qui b1 b2 s.heap l1 l2) s.heap.objs.size l1 0:=qz.new.at' fun o e=>up2 _ o (Heap.get?_push_of_some _ e)
 show _∧_
 rw[z2,z3,z4]at g5
 rw[z1,z2]at g3
 rw[z3]at g4
 rw[z1]at g2
 rw[z4]
 exact⟨⟨_,g5,rfl⟩,h _ g5 g3 g4 g1 g2 fun c o x=>up2 c o (Heap.get?_push_of_some _ (Heap.get?_push_of_some _ x))⟩
theorem qid {b1 b2:Bool} {z TI TO i1 i2 l1 l2:Addr} {k1 k2:Nat} {xs ys:Array Value} {x y a b:Value} {Q:Option Value→Shared→Prop} (D:ZipApart z TI TO i1 i2 l1 l2)
   (hz:IsZip s.heap z TI TO .none) (hTI:IsPair s.heap TI (.ref i1) (.ref i2)) (hTO:IsPair s.heap TO a b) (h1:qz b1 s.heap i1 l1 k1) (h2:qz b2 s.heap i2 l2 k2) (hl1:qcq b1 s.heap l1 xs) (hl2:qcq b2 s.heap l2 ys) (hx:xs[k1]? =some x) (hy:ys[k2]? =some y)
   (hQ:∀ h',IsZip h' z TI TO (rawInt s.heap.objs.size)→IsPair h' TO x y→qz b1 h' i1 l1 (k1+1)→qz b2 h' i2 l2 (k2+1)→IsPair h' s.heap.objs.size x y→h'.objs.size=s.heap.objs.size+1 →
     (∀ c o,c ≠ z→c ≠ TO→c ≠ i1→c ≠ i2→s.heap.get? c=some o→h'.get? c=some o)→Q (some (.ref s.heap.objs.size)) { s with heap:=h' }) :
   wpAny (model prog w) A (pyNext (.ref z)) Q E s:=by
 have hT:s.TypeIs (.ref z) "zip":=⟨_,hz,rfl⟩
 unfold pyNext
 exact wpAny_bind (wpAny_attempt (wpAny_callSpecial?_slot (name:=Str.ofString "__next__") hT F.slot_zip_next (wpAny_call_entry F.slot_zip_next hT F.entry_zip_next
     (qk4 D hz hTI hTO h1 h2 hl1 hl2 hx hy fun h' a1 a2 a3 a4 a5 a6 a7=>wpAny_pure (hQ h' a1 a2 a3 a4 a5 a6 a7)) (F.args_zip_next_1 _))))
theorem qj5 {b1 b2:Bool} {z TI TO i1 i2 l1 l2:Addr} {k1 k2:Nat} {xs ys:Array Value} {a b:Value} {Q:Option Value→Shared→Prop} (hh:A.handled=none) (D:ZipApart z TI TO i1 i2 l1 l2)
   (hz:IsZip s.heap z TI TO .none) (hTI:IsPair s.heap TI (.ref i1) (.ref i2)) (hTO:IsPair s.heap TO a b) (h1:qz b1 s.heap i1 l1 k1) (h2:qz b2 s.heap i2 l2 k2) (hl1:qcq b1 s.heap l1 xs) (hl2:qcq b2 s.heap l2 ys) (hend:xs[k1]? =none∨ys[k2]? =none)
   (hQ:∀ h',(∀ c o,c ≠ z→c ≠ TO→c ≠ i1→c ≠ i2→s.heap.get? c=some o→h'.get? c=some o)→Q none { s with heap:=h' }):wpAny (model prog w) A (pyNext (.ref z)) Q E s:=by
 have hT:s.TypeIs (.ref z) "zip":=⟨_,hz,rfl⟩
 unfold pyNext
 refine wpAny_bind (wpAny_attempt (wpAny_callSpecial?_slot (name:=Str.ofString "__next__") hT F.slot_zip_next (wpAny_call_entry F.slot_zip_next hT F.entry_zip_next (qm7 hh D hz hTI hTO h1 h2 hl1 hl2 hend fun h' e hk he=> ?_) (F.args_zip_next_1 _))))
 obtain ⟨o,ho,hc⟩:=he
 refine wpAny_bind (wpAny_isInstance (T:="StopIteration") (b:=true) ⟨o,ho,hc⟩ isSubtype_stop ?_)
 exact wpAny_pure (hQ _ hk)
end
noncomputable def SqS (K:PySem.W.Frag) (b:Bool) (H:Hp) (a:Addr) (xs:List V):Prop:=if b=true then SqL K H a xs else SqT K H a xs
section
variable {X:Cx} {pins:List (Addr × Obj)} {σ:St} {H:Hp} {s:Shared} {a:Addr} {xs ys:List V}
theorem Inv.seqS {b:Bool} (I:Inv X pins σ H s) (h:SqS X.K b H a xs):∃ its:List Value,Vals xs its∧qcq b s.heap a its.toArray∧xs.length≤sizeLine:=by
 cases b with
 | true =>
   obtain ⟨its,r,p,z⟩:=I.list (show SqL X.K H a xs from h)
   exact⟨its,r,p.isList,z⟩
 | false=>exact I.tuple (show SqT X.K H a xs from h)
theorem Inv.seqS_inj {b:Bool} (I:Inv X pins σ H s) (h:SqS X.K b H a xs) (h':SqS X.K b H a ys):xs=ys:=by
 cases b with
 | true=>exact I.list_inj (show SqL X.K H a xs from h) (show SqL X.K H a ys from h')
 | false=>exact I.tuple_inj (show SqT X.K H a xs from h) (show SqT X.K H a ys from h')
end
noncomputable def Itz (K:PySem.W.Frag) (b1 b2:Bool) (l1 l2:Addr):It :=
 ⟨fun i H=>(∃ xs x,SqS K b1 H l1 xs∧xs[i]? =some x)∧∃ ys y,SqS K b2 H l2 ys∧ys[i]? =some y,
  fun i H v H'=>∃ (p:Addr) (x y:V),H p=none∧v=.ref p∧H'=upd H p (.tup [x,y])∧(∀ xs,SqS K b1 H l1 xs→xs[i]? =some x)∧∀ ys,SqS K b2 H l2 ys→ys[i]? =some y,
  fun i H=>∃ xs ys,SqS K b1 H l1 xs∧SqS K b2 H l2 ys∧(xs.length≤i∨ys.length≤i)⟩
theorem qy8 {P:Program} {w:World} {K:PySem.W.Frag} {elts:List Expr} {k:Nat} {pos:Pos} {b1 b2:Bool} {z TI TO i1 i2 l1 l2:Addr} (D:ZipApart z TI TO i1 i2 l1 l2) :
   Turn P w K (.Tuple elts k pos) (Itz K b1 b2 l1 l2) [z,TI,TO,i1,i2] z (fun i h=>IsZip h z TI TO .none∧IsPair h TI (.ref i1) (.ref i2)∧(∃ a b,IsPair h TO a b)∧qz b1 h i1 l1 i∧qz b2 h i2 l2 i) where
 mem:=by simp
 obj:=fun i h st c hc=>by
   obtain ⟨hz,hTI,⟨a,b,hTO⟩,h1,h2⟩:=st
   simp only [List.mem_cons,List.not_mem_nil,or_false]at hc
   rcases hc with rfl | rfl | rfl | rfl | rfl
   · exact⟨_,hz,fun v q=>by cases q⟩
   · exact⟨_,hTI,fun v q=>by cases q⟩
   · exact⟨_,hTO,fun v q=>by cases q⟩
   · exact h1.here
   · exact h2.here
 keep:=fun i h h' st kk=>by
   obtain ⟨hz,hTI,⟨a,b,hTO⟩,h1,h2⟩:=st
   exact⟨kk z (by simp) _ hz,kk TI (by simp) _ hTI,⟨a,b,kk TO (by simp) _ hTO⟩,h1.at' fun o q=>kk i1 (by simp) o q,h2.at' fun o q=>kk i2 (by simp) o q⟩
 item:=by
   intro X hP hw hK hc i pins s σ H E I hf st hg
   subst hP hw hK
   obtain ⟨hz,hTI,⟨a,b,hTO⟩,h1,h2⟩:=st
   obtain ⟨⟨xs,x,hq,hx⟩,ys,y,hq',hy⟩:=hg
   obtain ⟨its,rv,p,_⟩:=I.seqS hq
   obtain ⟨its',rv',p',_⟩:=I.seqS hq'
   obtain ⟨u,hu,ru⟩:=rv.get hx
   obtain ⟨u',hu',ru'⟩:=rv'.get hy
   refine qid D hz hTI hTO h1 h2 p p' (x:=u) (y:=u') (by simpa using hu) (by simpa using hu') fun h' e1 e2 e3 e4 e5 e6 hk=> ?_
   refine⟨_,rfl,wpAny_letOwnedTupleGo_zip e1 fun h2' ez hs2=> ?_⟩
   have nz:s.heap.objs.size ≠ z:=Nat.ne_of_gt (Heap.lt_size hz)
   have lt:∀ c ∈ [z,TI,TO,i1,i2],c < s.heap.objs.size:=fun c hc=>by
     simp only [List.mem_cons,List.not_mem_nil,or_false]at hc
     rcases hc with rfl | rfl | rfl | rfl | rfl
     · exact Heap.lt_size hz
     · exact Heap.lt_size hTI
     · exact Heap.lt_size hTO
     · obtain ⟨o,q,_⟩:=h1.here;exact Heap.lt_size q
     · obtain ⟨o,q,_⟩:=h2.here;exact Heap.lt_size q
   have eTI:IsPair h2' TI (.ref i1) (.ref i2):=(hs2.2 _ D.TIz).trans (hk TI _ D.TIz D.TITO D.TIi1 D.TIi2 hTI)
   have eTO:IsPair h2' TO u u':=(hs2.2 _ D.TOz).trans e2
   have e3':qz b1 h2' i1 l1 (i+1):=e3.at' fun o q=>(hs2.2 _ D.i1z).trans q
   have e4':qz b2 h2' i2 l2 (i+1):=e4.at' fun o q=>(hs2.2 _ D.i2z).trans q
   have J:=I.turnedT (h':=h2') (t':=s.toks) (vs:=[x,y]) (its:=[u,u']) (ch:=[z,TI,TO,i1,i2]) hf
     (fun c o hc q=>(hs2.2 c (fun z=>hc (by simp [z]))).trans (hk c o (fun z=>hc (by simp [z])) (fun z=>hc (by simp [z])) (fun z=>hc (by simp [z])) (fun z=>hc (by simp [z])) q))
     (fun c hc=>by
       simp only [List.mem_cons,List.not_mem_nil,or_false]at hc
       rcases hc with rfl | rfl | rfl | rfl | rfl
       · exact⟨_,ez⟩
       · exact⟨_,eTI⟩
       · exact⟨_,eTO⟩
       · obtain ⟨o,q,_⟩:=e3'.here;exact⟨o,q⟩
       · obtain ⟨o,q,_⟩:=e4'.here;exact⟨o,q⟩) (.cons ru (.cons ru' .nil)) (by show 2≤sizeLine;decide) ⟨_,(hs2.2 _ nz).trans e5,rfl,_,rfl⟩
   have hn:H s.heap.objs.size=none:=I.hok.fresh (Nat.le_refl _)
   refine⟨.ref s.heap.objs.size,_,J,rfl,⟨_,x,y,hn,rfl,rfl,fun zs hz=>by rw[I.seqS_inj hz hq];exact hx,fun zs hz=>by rw[I.seqS_inj hz hq'];exact hy⟩,⟨ez,eTI,⟨_,_,eTO⟩,e3',e4'⟩,fun c hc=> ?_⟩
   rw[qc (Nat.ne_of_lt (lt c hc))]
   exact(hf c hc).1
 done:=by
   intro X hP hw hK hc i pins s σ H E I hf st hg
   subst hP hw hK
   obtain ⟨hz,hTI,⟨a,b,hTO⟩,h1,h2⟩:=st
   obtain ⟨xs,ys,hq,hq',hx⟩:=hg
   obtain ⟨its,rv,p,_⟩:=I.seqS hq
   obtain ⟨its',rv',p',_⟩:=I.seqS hq'
   have hl:=rv.length
   have hl':=rv'.length
   exact qj5 (I.ok.hd hc) D hz hTI hTO h1 h2 p p' (by simp;omega) fun h' hk=>⟨rfl,I.turnedN (t':=s.toks) hf fun c o hc q=>hk c o (fun z=>hc (by simp [z])) (fun z=>hc (by simp [z])) (fun z=>hc (by simp [z])) (fun z=>hc (by simp [z])) q⟩
 self:=fun _ _ s Q _ st h=>wpAny_pyIter_zip st.1 h
section
variable {X:Cx}
noncomputable def iZip (K:PySem.W.Frag) (ta:TA):TI:=fun σ H R=>ta σ H fun vs H1=>∃ (b1 b2:Bool) (l1 l2:Addr),vs=[.ref l1,.ref l2]∧(∃ xs,SqS K b1 H1 l1 xs)∧(∃ ys,SqS K b2 H1 l2 ys)∧R (Itz K b1 b2 l1 l2) H1
theorem q6n {elts:List Expr} {k:Nat} {pos':Pos} {a b:Expr} {ta:TA} {p pos:Pos} (hg:Gl X "zip") (hm:X.mg "zip"=none) (ha:PA X [a,b] ta) (hs:starEach [a,b] X.env=[(false,eval a X.env),(false,eval b X.env)]:=by rfl) (hs2:starEach [b] X.env=[(false,eval b X.env)]:=by rfl) :
   PI X (.Tuple elts k pos') (.Call (.Name "zip" p) [a,b] [] pos) (iZip X.K ta):=by
 intro pins s σ H R I h
 refine Call_ (qgf I hg hm q6f (PyProof.Rows.callWith_type1 (thn (ha pos pins s σ H _ I h) fun us s1 ⟨vs,H1,I1,r1,q1⟩=> ?_) (by rw[hs,hs2]) (by rw[hs2];rfl)))
 obtain ⟨b1,b2,l1,l2,e,⟨xs,hq⟩,⟨ys,hq'⟩,q⟩:=q1
 subst e
 obtain ⟨u,u',rfl,ru,ru'⟩:=r1.two
 cases ru
 cases ru'
 obtain ⟨its,rv,pl,_⟩:=I1.seqS hq
 obtain ⟨its',rv',pl',_⟩:=I1.seqS hq'
 have in1:l1 < s1.heap.objs.size:=by
   cases b1 with
   | true=>obtain ⟨o,e,_⟩:=(show s1.heap.IsList l1 its.toArray from pl);exact Heap.lt_size e
   | false=>obtain ⟨o,e,_⟩:=(show s1.heap.IsTuple l1 its.toArray from pl);exact Heap.lt_size e
 have in2:l2 < s1.heap.objs.size:=by
   cases b2 with
   | true=>obtain ⟨o,e,_⟩:=(show s1.heap.IsList l2 its'.toArray from pl');exact Heap.lt_size e
   | false=>obtain ⟨o,e,_⟩:=(show s1.heap.IsTuple l2 its'.toArray from pl');exact Heap.lt_size e
 refine qxg pl pl' fun h' e1 e2 e3 e4 e5 hk=> ?_
 refine wpAny_pyIter_zip e1 ?_
 have fr:∀ c,s1.heap.objs.size≤c→H1 c=none:=fun c hc=>I1.hok.fresh hc
 refine⟨_,_,_,_,H1,rfl,I1.kept (t':=s1.toks) hk,qy8 (b1:=b1) (b2:=b2) (zipApart_new in1 in2),⟨e1,e2,⟨_,_,e3⟩,e4,e5⟩,fun c hc=> ?_,q⟩
 have hc':s1.heap.objs.size≤c:=by
   simp only [List.mem_cons,List.not_mem_nil,or_false]at hc
   rcases hc with rfl | rfl | rfl | rfl | rfl
   · exact Nat.le_add_right _ _
   · exact Nat.le_add_right _ _
   · exact Nat.le_add_right _ _
   · exact Nat.le_refl _
   · exact Nat.le_add_right _ _
 exact I1.fpOk hc' (fr c hc')
end
section
variable {X:Cx}
theorem qrp {bs:List Bool} {its:List Value} (rv:Vals (bs.map V.bl) its):∀ (i:Nat) (v:Value),its[i]? =some v→v=Value.bool (bs.getD i true):=fun i v e=>by
 have hl:=rv.length
 have hi:i < its.length:=(List.getElem?_eq_some_iff.mp e).1
 have hb:i < bs.length:=by simpa [← hl]using hi
 obtain ⟨u,e2,r⟩:=rv.get (i:=i) (x:=.bl bs[i]) (by simp [hb])
 rw[e]at e2;cases e2
 have:v=Value.bool bs[i]:=r
 rw[this];simp [List.getD_eq_getElem?_getD,hb]
theorem q2h {ns:List Int} {its:List Value} (rv:Vals (ns.map V.int) its):∀ (i:Nat) (v:Value),its[i]? =some v→∃ t,v=Value.int (ns.getD i 0) t:=fun i v e=>by
 have hl:=rv.length
 have hi:i < its.length:=(List.getElem?_eq_some_iff.mp e).1
 have hb:i < ns.length:=by simpa [← hl]using hi
 obtain ⟨u,e2,r⟩:=rv.get (i:=i) (x:=.int ns[i]) (by simp [hb])
 rw[e]at e2;cases e2
 obtain ⟨t,rfl⟩:=r
 exact⟨t,by simp [List.getD_eq_getElem?_getD,hb]⟩
theorem range_all (bs:List Bool):(List.range bs.length).all (fun i=>bs.getD i true)=bs.all id:=by
 rw[Bool.eq_iff_iff]
 simp only [List.all_eq_true,List.mem_range]
 constructor
 · intro h b hb
   obtain ⟨i,hi,rfl⟩:=List.getElem_of_mem hb
   have:=h i hi
   simpa [List.getD_eq_getElem?_getD,hi]using this
 · intro h i hi
   have:=h bs[i] (List.getElem_mem hi)
   simpa [List.getD_eq_getElem?_getD,hi]using this
theorem range_any (bs:List Bool):(List.range bs.length).any (fun i=>bs.getD i true)=bs.any id:=by
 rw[Bool.eq_iff_iff]
 simp only [List.any_eq_true,List.mem_range]
 constructor
 · rintro ⟨i,hi,h⟩
   exact⟨bs[i],List.getElem_mem hi,by simpa [List.getD_eq_getElem?_getD,hi]using h⟩
 · rintro ⟨b,hb,h⟩
   obtain ⟨i,hi,rfl⟩:=List.getElem_of_mem hb
   exact⟨i,hi,by simpa [List.getD_eq_getElem?_getD,hi]using h⟩
theorem qjn (ns:List Int):∀ k,k≤ns.length→preSum (fun i=>ns.getD i 0) k=(ns.take k).sum
 | 0,_=>by simp [preSum]
 | k+1,h=>by
   have hk:k < ns.length:=h
   have e:ns.take (k+1)=ns.take k++[ns[k]]:=by simp
   rw[preSum,qjn ns k (Nat.le_of_lt hk),e,List.sum_append,List.getD_eq_getElem?_getD]
   simp [hk]
theorem quj (ns:List Int):preSum (fun i=>ns.getD i 0) ns.length=ns.sum:=by
 rw[qjn ns _ (Nat.le_refl _),List.take_length]
noncomputable def rAll (K:PySem.W.Frag):List V→Hp→VK→Prop:=fun vs H Q=>∃ (l:Addr) (bs:List Bool),vs=[.ref l]∧SqL K H l (bs.map V.bl)∧Q (.bl (bs.all id)) H
noncomputable def rAny (K:PySem.W.Frag):List V→Hp→VK→Prop:=fun vs H Q=>∃ (l:Addr) (bs:List Bool),vs=[.ref l]∧SqL K H l (bs.map V.bl)∧Q (.bl (bs.any id)) H
noncomputable def rSum (K:PySem.W.Frag):List V→Hp→VK→Prop:=fun vs H Q=>∃ (l:Addr) (ns:List Int),vs=[.ref l]∧SqL K H l (ns.map V.int)∧Q (.int ns.sum) H
theorem qy9 (hc:X.calm=true):qaj X (.builtin "all") (rAll X.K):=by
 intro pins s σ H xs us Q I r h
 obtain ⟨l,bs,rfl,hq,q⟩:=h
 obtain ⟨u,rfl,ru⟩:=r.one
 cases ru
 obtain ⟨its,rv,p,hz⟩:=I.list hq
 have hl:=rv.length
 have hlt:l < s.heap.objs.size:=by obtain ⟨o,e,_⟩:=p.isList;exact Heap.lt_size e
 refine call_all_walk (wpAny_pyIter_list p.isList ⟨_,_,_,_,_,_,fun i=>bs.getD i true,rfl,Walks.list (A:=X.A.in1) (I.ok.hd hc) _ l (Nat.ne_of_lt hlt) its.toArray,⟨⟨_,Heap.get?_push_size _ rfl,rfl,rfl⟩,p.isList.push _⟩,?_,fun h' tk hk=> ?_⟩)
 · intro i v s' Q' E' hv hq'
   rw[qrp rv i v (by simpa using hv)]
   exact wpAny_truthy_bool hq'
 · have e:(List.range its.toArray.size).all (fun i=>bs.getD i true)=bs.all id:=by
     rw[List.size_toArray,← hl,List.length_map];exact range_all bs
   rw[e]
   exact⟨.bl _,H,I.kept fun b o eb=>hk b o (fun z=>Nat.ne_of_lt (Heap.lt_size eb) (by simpa using z)) (Heap.get?_push_of_some _ eb),rfl,q⟩
theorem qza (hc:X.calm=true):qaj X (.builtin "any") (rAny X.K):=by
 intro pins s σ H xs us Q I r h
 obtain ⟨l,bs,rfl,hq,q⟩:=h
 obtain ⟨u,rfl,ru⟩:=r.one
 cases ru
 obtain ⟨its,rv,p,hz⟩:=I.list hq
 have hl:=rv.length
 have hlt:l < s.heap.objs.size:=by obtain ⟨o,e,_⟩:=p.isList;exact Heap.lt_size e
 refine call_any_walk (wpAny_pyIter_list p.isList ⟨_,_,_,_,_,_,fun i=>bs.getD i true,rfl,Walks.list (A:=X.A.in1) (I.ok.hd hc) _ l (Nat.ne_of_lt hlt) its.toArray,⟨⟨_,Heap.get?_push_size _ rfl,rfl,rfl⟩,p.isList.push _⟩,?_,fun h' tk hk=> ?_⟩)
 · intro i v s' Q' E' hv hq'
   rw[qrp rv i v (by simpa using hv)]
   exact wpAny_truthy_bool hq'
 · have e:(List.range its.toArray.size).any (fun i=>bs.getD i true)=bs.any id:=by
     rw[List.size_toArray,← hl,List.length_map];exact range_any bs
   rw[e]
   exact⟨.bl _,H,I.kept fun b o eb=>hk b o (fun z=>Nat.ne_of_lt (Heap.lt_size eb) (by simpa using z)) (Heap.get?_push_of_some _ eb),rfl,q⟩
theorem qzb (hc:X.calm=true):qaj X (.builtin "sum") (rSum X.K):=by
 intro pins s σ H xs us Q I r h
 obtain ⟨l,ns,rfl,hq,q⟩:=h
 obtain ⟨u,rfl,ru⟩:=r.one
 cases ru
 obtain ⟨its,rv,p,hz⟩:=I.list hq
 have hl:=rv.length
 have hlt:l < s.heap.objs.size:=by obtain ⟨o,e,_⟩:=p.isList;exact Heap.lt_size e
 refine call_sum_walkG (wpAny_pyIter_list p.isList ⟨_,_,_,_,_,_,fun i=>ns.getD i 0,rfl,Walks.list (A:=X.A.in1) (I.ok.hd hc) _ l (Nat.ne_of_lt hlt) its.toArray,⟨⟨_,Heap.get?_push_size _ rfl,rfl,rfl⟩,p.isList.push _⟩,?_,?_,fun h' tk t' hk=> ?_⟩)
 · intro b hb
   rw[Heap.size_push]
   simp only [List.mem_cons,List.not_mem_nil,or_false]at hb
   rcases hb with rfl | rfl
   · exact Nat.lt_succ_self _
   · exact Nat.lt_succ_of_lt hlt
 · intro i v hv
   exact q2h rv i v (by simpa using hv)
 · have e:preSum (fun i=>ns.getD i 0) its.toArray.size=ns.sum:=by
     rw[List.size_toArray,← hl,List.length_map];exact quj ns
   rw[e]
   exact⟨.int _,H,I.kept fun b o eb=>hk b o (fun z=>Nat.ne_of_lt (Heap.lt_size eb) (by simpa using z)) (Heap.get?_push_of_some _ eb),⟨_,rfl⟩,q⟩
end
section
variable {X:Cx} {K:PySem.W.Frag}
theorem kSlL (hK:X.K=K):SlR X (q94 K):=by subst hK;exact qvq
theorem q2i (hK:X.K=K):qaj X (.type "list") (fun xs H Q=>∃ p ys,xs=[.ref p]∧(SqL K H p ys∨SqT K H p ys)∧∀ l,H l=none→Q (.ref l) (upd H l (.lst ys))):=by subst hK;exact qhc
end
section
variable {κ:Type} [DecidableEq κ]
noncomputable def qie (kvs:List (κ × V)) (k:κ):Option V:=(kvs.find? fun kv=>decide (kv.1=k)).map (·.2)
noncomputable def putK (kvs:List (κ × V)) (k:κ) (v:V):List (κ × V) :=
 if (kvs.any fun kv=>decide (kv.1=k))=true then kvs.map (fun kv=>if kv.1=k then (kv.1,v)else kv)else kvs++[(k,v)]
theorem qe8 {p:κ × V} {r:List (κ × V)} {k:κ} (e:p.1=k):qie (p::r) k=some p.2:=by simp [qie,List.find?_cons,e]
theorem qe9 {p:κ × V} {r:List (κ × V)} {k:κ} (e:¬ p.1=k):qie (p::r) k=qie r k:=by simp [qie,List.find?_cons,e]
theorem qrq (k:κ):∀ kvs:List (κ × V),(kvs.any fun kv=>decide (kv.1=k))=(qie kvs k).isSome
 | []=>rfl
 | p::r=>by
   rw[List.any_cons]
   by_cases e:p.1=k
   · simp only [qe8 e,decide_eq_true e,Bool.true_or,Option.isSome_some]
   · rw[qe9 e,decide_eq_false e,Bool.false_or];exact qrq k r
theorem qjo (kvs:List (κ × V)) (k:κ) (v:V):(putK kvs k v).length≤kvs.length+1:=by
 unfold putK
 split
 · rw[List.length_map];omega
 · rw[List.length_append,List.length_cons,List.length_nil];omega
theorem qky.isSome_eq {o:Option V} {u:Option Value} (r:qky o u):o.isSome=u.isSome:=by
 cases o with
 | none=>cases u with
   | none=>rfl
   | some _=>exact(show False from r).elim
 | some _=>cases u with
   | none=>exact(show False from r).elim
   | some _=>rfl
theorem KV.val {kvs:List (κ × V)} {vs:List (κ × Value)} (r:KV kvs vs) (k:κ):qky (qie kvs k) (valueAt vs k):=by
 unfold KV at r
 induction r with
 | nil=>exact True.intro
 | @cons p q ps qs h t ih =>
   obtain ⟨h1,h2⟩:=h
   by_cases e:p.1=k
   · have e':q.1=k:=h1.symm.trans e
     have b:valueAt (q::qs) k=some q.2:=by simp [valueAt,List.find?_cons,e']
     rw[qe8 e,b];exact h2
   · have e':¬ q.1=k:=fun z=>e (h1.trans z)
     have b:valueAt (q::qs) k=valueAt qs k:=by simp [valueAt,List.find?_cons,e']
     rw[qe9 e,b];exact ih
theorem KV.any {kvs:List (κ × V)} {vs:List (κ × Value)} (r:KV kvs vs) (k:κ):(kvs.any fun kv=>decide (kv.1=k))=vs.any fun kv=>decide (kv.1=k):=by
 unfold KV at r
 induction r with
 | nil=>rfl
 | cons h t ih=>rw[List.any_cons,List.any_cons,ih,h.1]
theorem KV.repl {kvs:List (κ × V)} {vs:List (κ × Value)} (r:KV kvs vs) (k:κ) {y:V} {u:Value} (ry:RelV y u) :
   KV (kvs.map fun kv=>if kv.1=k then (kv.1,y)else kv) (vs.map fun kv=>if kv.1=k then (kv.1,u)else kv):=by
 unfold KV at r ⊢
 induction r with
 | nil=>exact .nil
 | @cons p q ps qs h t ih =>
   rw[List.map_cons,List.map_cons]
   refine .cons ?_ ih
   obtain ⟨h1,h2⟩:=h
   by_cases e:p.1=k
   · rw[if_pos e,if_pos (h1.symm.trans e)];exact⟨h1,ry⟩
   · rw[if_neg e,if_neg (fun z=>e (h1.trans z))];exact⟨h1,h2⟩
theorem KV.put {kvs:List (κ × V)} {vs:List (κ × Value)} (r:KV kvs vs) (k:κ) {y:V} {u:Value} (ry:RelV y u):KV (putK kvs k y) (stored vs k u):=by
 unfold putK stored
 rw[r.any k]
 by_cases e:(vs.any fun kv=>decide (kv.1=k))=true
 · rw[if_pos e,if_pos e];exact r.repl k ry
 · rw[if_neg e,if_neg e];exact Paired.snoc r ⟨rfl,ry⟩
theorem KV.length {kvs:List (κ × V)} {vs:List (κ × Value)} (r:KV kvs vs):kvs.length=vs.length:=Paired.length r
end
theorem qog {P:Program} {w:World} {k:Key} {u:Value} (r:RelV (kV k) u):(qo P w).is k u=true:=by
 cases k with
 | inl i=>obtain ⟨t,e⟩:=(show ∃ t,u=Value.int i t from r);subst e;exact qrc P w i t
 | inr x=>obtain ⟨t,e⟩:=(show ∃ t,u=Value.str x t from r);subst e;exact qrd P w x t
theorem qoh {P:Program} {w:World}:∀ {ks:List Key} {us:List Value},Vals (ks.map kV) us→ItemsAre (qo P w) ks us
 | [],_,r=>by rw[List.map_nil]at r;cases r;exact .nil
 | k::ks,_,r=>by
   rw[List.map_cons]at r
   cases r with
   | cons h t=>exact .cons (qog h) (qoh t)
noncomputable abbrev KT (H:Hp):List (List Key × V)→List (List Key × Addr × Value)→Prop:=Paired fun p q=>p.1=q.1∧H q.2.1=some (.tup (p.1.map kV))∧RelV p.2 q.2.2
theorem KT.val {H:Hp} {kvs:List (List Key × V)} {xs:List (List Key × Addr × Value)} (r:KT H kvs xs) (k:List Key):qky (qie kvs k) ((atKey xs k).map (·.2)):=by
 induction r with
 | nil=>exact True.intro
 | @cons p q ps qs h t ih =>
   obtain ⟨h1,_,h2⟩:=h
   by_cases e:p.1=k
   · have e':q.1=k:=h1.symm.trans e
     have b:atKey (q::qs) k=some q.2:=by simp [atKey,List.find?_cons,e']
     rw[qe8 e,b];exact h2
   · have e':¬ q.1=k:=fun z=>e (h1.trans z)
     have b:atKey (q::qs) k=atKey qs k:=by simp [atKey,List.find?_cons,e']
     rw[qe9 e,b];exact ih
theorem KT.repl {H:Hp} {kvs:List (List Key × V)} {xs:List (List Key × Addr × Value)} (r:KT H kvs xs) (k:List Key) {y:V} {u:Value} (ry:RelV y u) :
   KT H (kvs.map fun kv=>if kv.1=k then (kv.1,y)else kv) (xs.map (putAt k u)):=by
 induction r with
 | nil=>exact .nil
 | @cons p q ps qs h t ih =>
   rw[List.map_cons,List.map_cons]
   refine .cons ?_ ih
   obtain ⟨h1,h2,h3⟩:=h
   unfold putAt
   by_cases e:p.1=k
   · rw[if_pos e,if_pos (h1.symm.trans e)];exact⟨h1,h2,ry⟩
   · rw[if_neg e,if_neg (fun z=>e (h1.trans z))];exact⟨h1,h2,h3⟩
theorem KT.put {H:Hp} {kvs:List (List Key × V)} {xs:List (List Key × Addr × Value)} (r:KT H kvs xs) (k:List Key) {b:Addr} {y:V} {u:Value} (hb:H b=some (.tup (k.map kV))) (ry:RelV y u) :
   KT H (putK kvs k y) (storedH xs k b u):=by
 have e:(kvs.any fun kv=>decide (kv.1=k))=(atKey xs k).isSome:=by
   rw[qrq,(r.val k).isSome_eq,Option.isSome_map]
 unfold putK storedH
 rw[e]
 by_cases q:(atKey xs k).isSome=true
 · rw[if_pos q,if_pos q];exact r.repl k ry
 · rw[if_neg q,if_neg q];exact Paired.snoc r ⟨rfl,hb,ry⟩
theorem KT.keeps {H H':Hp} {kvs:List (List Key × V)} {xs:List (List Key × Addr × Value)} (r:KT H kvs xs) (ht:∀ b ys,H b=some (.tup ys)→H' b=some (.tup ys)):KT H' kvs xs :=
 Paired.mapP r fun _ _ z=>⟨z.1,ht _ _ z.2.1,z.2.2⟩
section
variable {P:Program} {w:World} {H:Hp} {h:Heap} {a:Addr}
theorem q4k {u:HO} (ok:HOk P w H h) (e:Rd H a u):qat P w H h a u:=e.ok ok
theorem qhf {kvs:List (Key × V)} (ok:HOk P w H h) (e:Rd H a (.dK kvs)):kvs.length≤sizeLine∧(a==sysModules)=false∧∃ vs,KV kvs vs∧h.DictOf (qo P w) a vs :=
 show qat P w H h a (.dK kvs) from q4k ok e
theorem qaac {kvs:List (Key × V)} (ok:HOk P w H h) (e:H a=some (.dK kvs)):kvs.length≤sizeLine∧(a==sysModules)=false∧∃ vs,KV kvs vs∧h.DictOf (qo P w) a vs:=qhf ok (.inl e)
theorem qk6 {ks:List Key} (ok:HOk P w H h) (e:H a=some (.tup (ks.map kV))):(tupleKind (qo P w)).is h ks a:=by
 obtain ⟨_,its,r,o,h1,h2,n,h3⟩:=(show qat P w H h a (.tup (ks.map kV)) from ok a _ e)
 exact⟨o,its.toArray,n,h1,h2,h3,by simpa using qoh r⟩
theorem qrr {kvs:List (List Key × V)} (ok:HOk P w H h) (e:Rd H a (.dT kvs)):kvs.length≤sizeLine∧(a==sysModules)=false ∧
   ∃ xs,KT H kvs xs∧h.DictOfH (tupleKind (qo P w)) a xs:=by
 obtain ⟨z,y,xs,r,o,es,ep,h1,h2,h3,h4,h5⟩:=(show qat P w H h a (.dT kvs) from q4k ok e)
 refine⟨z,y,xs,r,o,es,ep,h1,h2,h3,h4,fun x hx=> ?_,h5⟩
 have all:∀ {l:List (List Key × V)} {m:List (List Key × Addr × Value)},KT H l m→∀ x ∈ m,(tupleKind (qo P w)).is h x.1 x.2.1:=by
   intro l m q
   induction q with
   | nil=>intro x hx;exact nomatch hx
   | @cons p q ps qs hq t ih =>
     intro x hx
     rcases List.mem_cons.mp hx with e | hx
     · subst e
       exact qk6 ok (by rw[← hq.1];exact hq.2.1)
     · exact ih x hx
 exact all r x hx
theorem qaad {kvs:List (List Key × V)} (ok:HOk P w H h) (e:H a=some (.dT kvs)):kvs.length≤sizeLine∧(a==sysModules)=false ∧
   ∃ xs,KT H kvs xs∧h.DictOfH (tupleKind (qo P w)) a xs:=qrr ok (.inl e)
end
noncomputable def qk7 (H:Hp) (a:Addr) (y:V) (r:Option V):Prop :=
 (∃ kvs k,Rd H a (.dK kvs)∧y=kV k∧r=qie kvs k)∨∃ kvs k b,Rd H a (.dT kvs)∧y=.ref b∧H b=some (.tup (k.map kV))∧r=qie kvs k
noncomputable def qzc (H:Hp) (a:Addr) (y v:V) (H':Hp):Prop :=
 (∃ kvs k,H a=some (.dK kvs)∧y=kV k∧kvs.length < sizeLine∧H'=upd H a (.dK (putK kvs k v))) ∨
 ∃ kvs k b,H a=some (.dT kvs)∧y=.ref b∧H b=some (.tup (k.map kV))∧kvs.length < sizeLine∧H'=upd H a (.dT (putK kvs k v))
theorem qzc.k {H:Hp} {a:Addr} {kvs:List (Key × V)} {k:Key} {v:V} (e:H a=some (.dK kvs)) (hl:kvs.length < sizeLine):qzc H a (kV k) v (upd H a (.dK (putK kvs k v))):=.inl ⟨kvs,k,e,rfl,hl,rfl⟩
section
variable {X:Cx} {pins:List (Addr × Obj)} {σ:St} {H:Hp} {s:Shared} {a:Addr} {y v:V} {u r:Value} {o:Option V} {A:Around} {E:Value→Shared→Prop}
theorem Inv.big (I:Inv X pins σ H s):sysModules < s.heap.objs.size:=by
 have h:mainGlobals < s.heap.objs.size:=(I.mod.glob.keeps I.bk).lt
 exact Nat.lt_trans (by decide) h
theorem qoi {Q:Value→Shared→Prop} (hu:A.units+1 < cLine) (I:Inv X pins σ H s) (g:qk7 H a y (some v)) (ry:RelV y u) (h:∀ w' s',Inv X pins σ H s'→RelV v w'→Q w' s') :
   wpAny (model X.prog X.w) A (getItem (.ref a) u) Q E s:=by
 rcases g with ⟨kvs,k,e,ey,l⟩ | ⟨kvs,k,b,e,ey,eb,l⟩
 · subst ey
   obtain ⟨z,hd,vs,rel,dd⟩:=qhf I.hok e
   obtain ⟨w',hw,rw'⟩:=qky.some_of (v:=v) (o:=valueAt vs k) (by rw[l];exact rel.val k)
   exact wpAny_getItem_of (qog ry) dd.mapOf hw (h w' _ (I.tok _) rw')
 · subst ey
   cases (show u=Value.ref b from ry)
   obtain ⟨z,hd,xs,rel,dd⟩:=qrr I.hok e
   obtain ⟨w',hw,rw'⟩:=qky.some_of (v:=v) (o:=(atKey xs k).map (·.2)) (by rw[l];exact rel.val k)
   obtain ⟨p,hp,hp2⟩:=Option.map_eq_some_iff.mp hw
   refine wpAny_getItem_heap (tupleKind_room_in1 hu) (qk6 I.hok eb) dd hp ?_
   rw[hp2]
   exact h w' _ (I.tok _) rw'
theorem d_in {Q:Value→Shared→Prop} (hu:A.units+1 < cLine) (I:Inv X pins σ H s) (g:qk7 H a y o) (ry:RelV y u) (h:∀ s',Inv X pins σ H s'→Q (.bool o.isSome) s') :
   wpAny (model X.prog X.w) A (compareOp .In u (.ref a)) Q E s:=by
 rcases g with ⟨kvs,k,e,ey,l⟩ | ⟨kvs,k,b,e,ey,eb,l⟩
 · subst ey
   obtain ⟨z,hd,vs,rel,dd⟩:=qhf I.hok e
   refine wpAny_in_of (qog ry) hd dd.mapOf ?_
   rw[← (rel.val k).isSome_eq,← l]
   exact h _ (I.tok _)
 · subst ey
   cases (show u=Value.ref b from ry)
   obtain ⟨z,hd,xs,rel,dd⟩:=qrr I.hok e
   refine wpAny_in_heap (tupleKind_room_in1 hu) (qk6 I.hok eb) hd dd ?_
   have q:=(rel.val k).isSome_eq
   rw[Option.isSome_map]at q
   rw[← q,← l]
   exact h _ (I.tok _)
theorem q2j {Q:Value→Shared→Prop} (hu:A.units+1 < cLine) (I:Inv X pins σ H s) (g:qk7 H a y o) (ry:RelV y u) (h:∀ s',Inv X pins σ H s'→Q (.bool (!o.isSome)) s') :
   wpAny (model X.prog X.w) A (compareOp .NotIn u (.ref a)) Q E s:=by
 rcases g with ⟨kvs,k,e,ey,l⟩ | ⟨kvs,k,b,e,ey,eb,l⟩
 · subst ey
   obtain ⟨z,hd,vs,rel,dd⟩:=qhf I.hok e
   refine wpAny_notIn_of (qog ry) hd dd.mapOf ?_
   rw[← (rel.val k).isSome_eq,← l]
   exact h _ (I.tok _)
 · subst ey
   cases (show u=Value.ref b from ry)
   obtain ⟨z,hd,xs,rel,dd⟩:=qrr I.hok e
   refine wpAny_notIn_heap (tupleKind_room_in1 hu) (qk6 I.hok eb) hd dd ?_
   have q:=(rel.val k).isSome_eq
   rw[Option.isSome_map]at q
   rw[← q,← l]
   exact h _ (I.tok _)
theorem qvr {h':Heap} {t':Nat} {ob:HO} (I:Inv X pins σ H s) (mu:Mut (H a)) (hs:Heap.SameBut a s.heap h') (he:∃ q,h'.get? a=some q) (new:qat X.prog X.w (upd H a ob) h' a ob) :
   Inv X pins σ (upd H a ob) { s with heap:=h',toks:=t' } :=
 I.write (x:=a) (e:=a) mu (.inl rfl) (fun b q hb z=>(hs.2 b hb).trans z) he new
theorem q6o {P:Program} {w:World} {H':Hp} {h':Heap} {kvs:List (Key × V)} {vs:List (Key × Value)} (z:kvs.length≤sizeLine) (hd:(a==sysModules)=false) (rel:KV kvs vs) (dd:h'.DictOf (qo P w) a vs) :
   qat P w H' h' a (.dK kvs):=⟨z,hd,vs,rel,dd⟩
theorem qxh {H':Hp} {Q:Unit→Shared→Prop} (hu:A.units+1 < cLine) (I:Inv X pins σ H s) (g:qzc H a y v H') (ry:RelV y u) (rv:RelV v r) (h:∀ s',Inv X pins σ H' s'→Q () s') :
   wpAny (model X.prog X.w) A (setItem (.ref a) u r) Q E s:=by
 rcases g with ⟨kvs,k,e,ey,l,eH⟩ | ⟨kvs,k,b,e,ey,eb,l,eH⟩
 · subst ey eH
   obtain ⟨z,hd,vs,rel,dd⟩:=qaac I.hok e
   have hz:vs.length≤sizeLine:=by rw[← rel.length];exact z
   have hl:(putK kvs k v).length≤sizeLine:=by have:=qjo kvs k v;omega
   refine wpAny_setItem_pairs (hsz:=hz) (qog ry) dd fun h' dd' hs=>h _ ?_
   have he:∃ q,h'.get? a=some q:=let ⟨q,_,_,hq,_⟩:=dd';⟨q,hq⟩
   exact qvr I (by rw[e];exact True.intro) hs he (q6o hl hd (rel.put k rv) dd')
 · subst ey eH
   cases (show u=Value.ref b from ry)
   obtain ⟨z,hd,xs,rel,dd⟩:=qaad I.hok e
   have hz:xs.length≤sizeLine:=by rw[← Paired.length rel];exact z
   have hl:(putK kvs k v).length≤sizeLine:=by have:=qjo kvs k v;omega
   refine wpAny_setItem_heap (hsz:=hz) (tupleKind_room_in1 hu) (qk6 I.hok eb) dd fun h' dd' hs=>h _ ?_
   obtain ⟨q,es,ep,hq,h2,h3,h4,_,h5⟩:=dd'
   refine qvr I (by rw[e];exact True.intro) hs ⟨q,hq⟩ ⟨hl,hd,_,(rel.put k eb rv).keeps fun c ys ec=> ?_,q,es,ep,hq,h2,h3,h4,h5⟩
   rw[qc (q88 ec e (fun z=>nomatch z))]
   exact ec
end
section
variable {X:Cx} {pins:List (Addr × Obj)} {σ:St} {H:Hp} {s:Shared} {a:Addr} {kvs:List (Key × V)} {k:Key} {u:Value} {A:Around} {E:Value→Shared→Prop}
theorem qaae {Q:Value→Shared→Prop} (I:Inv X pins σ H s) (e:Rd H a (.dK kvs)) (h:∀ t s',Inv X pins σ H s'→Q (.int kvs.length t) s'):wpAny (model X.prog X.w) A (call (.builtin "len") [.ref a]) Q E s:=by
 obtain ⟨z,hd,vs,rel,dd⟩:=qhf I.hok e
 refine call_len_dict hd dd (by rw[← rel.length];rw[sizeLine_eq]at z;omega) ?_
 rw[← rel.length]
 exact h _ _ (I.tok _)
theorem q2k {Q:Bool→Shared→Prop} (I:Inv X pins σ H s) (e:Rd H a (.dK kvs)) (h:∀ s',Inv X pins σ H s'→Q (!kvs.isEmpty) s'):wpAny (model X.prog X.w) A (truthy (.ref a)) Q E s:=by
 obtain ⟨z,hd,vs,rel,dd⟩:=qhf I.hok e
 refine wpAny_truthy_dict hd dd (by rw[← rel.length];rw[sizeLine_eq]at z;omega) ?_
 have q:kvs.isEmpty=vs.isEmpty:=by cases rel <;> rfl
 rw[← q]
 exact h _ (I.tok _)
end
theorem qrs {X:Cx} {pins:List (Addr × Obj)} {σ:St} {H:Hp} {s:Shared} {a:Addr} {y:V} {o:Option V} (I:Inv X pins σ H s) (g:qk7 H a y o):s.TypeIs (.ref a) "dict":=by
 rcases g with ⟨kvs,k,e,_,_⟩ | ⟨kvs,k,b,e,_,_,_⟩
 · obtain ⟨_,_,vs,_,dd⟩:=qhf I.hok e
   exact dd.typeIs
 · obtain ⟨_,_,xs,_,dd⟩:=qrr I.hok e
   exact dd.typeIs
section
variable {X:Cx} {o i e value:Expr} {pos pos' tpos:Pos} {td ty tv:TE}
end
theorem qzd {P:Program} {w:World} {H:Hp} (h:Heap) (hb:sysModules < h.objs.size):qat P w H (h.push { cls:=.type "dict",data:=.dict #[] }) h.objs.size (.dK []) :=
 ⟨Nat.zero_le _,beq_eq_false_iff_ne.mpr (Ne.symm (Nat.ne_of_lt hb)),[],.nil,Heap.DictOf.new h⟩
noncomputable def q6p:TE:=fun _ H Q=>∀ p,H p=none→Q (.ref p) (upd H p (.dK []))
section
variable {X:Cx} {pos:Pos}
theorem qze:PE X (.Dict [] [] pos) q6p:=fun pins s σ H Q I h =>
 wpAny_Dict_empty ⟨.ref s.heap.objs.size,_,I.laid (a:=s.heap.objs.size) (o:=.dK []) (t':=s.toks) (fun _ _ q=>Heap.get?_push_of_some _ q) (Nat.le_refl _) (qzd s.heap I.big),rfl,h _ (I.hok.fresh (Nat.le_refl _))⟩
end
section
variable {X:Cx} {pins:List (Addr × Obj)} {σ:St} {H:Hp} {s:Shared} {a:Addr} {y d:V} {u r:Value} {o:Option V} {A:Around} {E:Value→Shared→Prop}
end
section
variable {X:Cx} {o e f:Expr} {apos cpos:Pos} {td ty tx:TE}
end
section
variable {X:Cx} {pins:List (Addr × Obj)} {σ:St} {H:Hp} {s:Shared} {a:Addr} {kvs:List (Key × V)} {A:Around} {E:Value→Shared→Prop}
end
section
variable {X:Cx} {pins:List (Addr × Obj)} {σ:St} {H:Hp} {s:Shared} {a:Addr} {y:V} {u:Value} {A:Around} {E:Value→Shared→Prop}
end
section
variable {X:Cx}
end
section
variable {κ:Type} [DecidableEq κ]
end
end L2
namespace T3
open PySem PySem.Spec PyProof.Rows L2
noncomputable abbrev St:=L2.St
theorem qoj {N:List Addr} (hN:N.Nodup) {i j:Nat} {x:Addr} (a:N[i]? =some x) (b:N[j]? =some x):i=j:=by
 obtain ⟨h1,e1⟩:=List.getElem?_eq_some_iff.mp a
 obtain ⟨h2,e2⟩:=List.getElem?_eq_some_iff.mp b
 exact(List.getElem_inj hN).mp (e1.trans e2.symm)
inductive D where
 | non | bl (b:Bool) | int (i:Int) | str (x:Str) | ty (n:String) | at_ (a:Addr) | ref (l:Nat)
 | lst (xs:List D) | tup (xs:List D) | dct (ks:List Key) (xs:List D) | obj (C:Addr) (fs:List Str) (xs:List D)
structure Wd where
 ρ:List Addr
 Z:Addr→Prop
mutual
noncomputable def Rep (w:Wd) (H:Hp):D→V→Prop
 | .non,v=>v=.non
 | .bl b,v=>v=.bl b
 | .int i,v=>v=.int i
 | .str x,v=>v=.str x
 | .ty n,v=>v=.ty n
 | .at_ a,v=>v=.ref a
 | .ref l,v=>∃ a,w.ρ[l]? =some a∧v=.ref a
 | .lst xs,v=>∃ a vs,v=.ref a∧w.Z a∧H a=some (.lst vs)∧qb w H xs vs
 | .tup xs,v=>∃ a vs,v=.ref a∧w.Z a∧H a=some (.tup vs)∧qb w H xs vs
 | .dct ks xs,v=>∃ a vs,v=.ref a∧w.Z a∧Rd H a (.dK (ks.zip vs))∧ks.length=xs.length∧qb w H xs vs
 | .obj C fs xs,v=>∃ a dx vs,v=.ref a∧w.Z a∧H a=some (.ins C dx (fs.zip vs))∧fs.length=xs.length∧qb w H xs vs
noncomputable def qb (w:Wd) (H:Hp):List D→List V→Prop
 | [],vs=>vs=[]
 | d::ds,vs=>∃ v r,vs=v::r∧Rep w H d v∧qb w H ds r
end
noncomputable def Fz (o o':Option HO):Prop:=o'=o∨∃ ob kvs,o=some (.dK kvs)∧o'=some (.frz ob (.dK kvs))
theorem Fz.trans {a b c:Option HO} (x:Fz a b) (y:Fz b c):Fz a c:=by
 rcases x with rfl | ⟨ob,kvs,rfl,rfl⟩
 · exact y
 · rcases y with rfl | ⟨_,_,e,_⟩
   · exact .inr ⟨ob,kvs,rfl,rfl⟩
   · cases e
theorem Fz.ne {a b:Option HO} (x:Fz a b) (h:a ≠ none):b ≠ none:=by
 rcases x with rfl | ⟨ob,kvs,rfl,rfl⟩
 · exact h
 · simp
theorem Fz.rd {H H':Hp} {a:Addr} {kvs:List (Key × V)} (x:Fz (H a) (H' a)) (h:Rd H a (.dK kvs)):Rd H' a (.dK kvs):=by
 rcases h with h | ⟨o,h⟩
 · rw[h]at x
   rcases x with x | ⟨ob,kvs',e,x⟩
   · exact .inl x
   · cases e;exact .inr ⟨ob,x⟩
 · rw[h]at x
   rcases x with x | ⟨ob,kvs',e,x⟩
   · exact .inr ⟨o,x⟩
   · cases e
structure Le (w:Wd) (H:Hp) (w':Wd) (H':Hp):Prop where
 pre:w.ρ <+: w'.ρ
 z:∀ a,w.Z a→w'.Z a
 h:∀ a,w.Z a→Fz (H a) (H' a)
theorem Le.refl (w:Wd) (H:Hp):Le w H w H:=⟨List.prefix_refl _,fun _ z=>z,fun _ _=>.inl rfl⟩
theorem Le.trans {w w1 w2:Wd} {H H1 H2:Hp} (a:Le w H w1 H1) (b:Le w1 H1 w2 H2):Le w H w2 H2 :=
 ⟨a.pre.trans b.pre,fun x z=>b.z x (a.z x z),fun x z=>(a.h x z).trans (b.h x (a.z x z))⟩
theorem Le.at_ {w w':Wd} {H H':Hp} (l:Le w H w' H') {i:Nat} {a:Addr} (h:w.ρ[i]? =some a):w'.ρ[i]? =some a:=by
 obtain ⟨r,e⟩:=l.pre
 rw[← e,List.getElem?_append_left (List.getElem?_eq_some_iff.mp h).1]
 exact h
theorem Le.lst {w w':Wd} {H H':Hp} (l:Le w H w' H') {a:Addr} {vs:List V} (z:w.Z a) (h:H a=some (.lst vs)):H' a=some (.lst vs):=by
 rcases l.h a z with e | ⟨_,_,e,_⟩
 · rw[e,h]
 · rw[h]at e;cases e
theorem Le.tup {w w':Wd} {H H':Hp} (l:Le w H w' H') {a:Addr} {vs:List V} (z:w.Z a) (h:H a=some (.tup vs)):H' a=some (.tup vs):=by
 rcases l.h a z with e | ⟨_,_,e,_⟩
 · rw[e,h]
 · rw[h]at e;cases e
theorem Le.ins {w w':Wd} {H H':Hp} (l:Le w H w' H') {a C dx:Addr} {vs:List (Str × V)} (z:w.Z a) (h:H a=some (.ins C dx vs)):H' a=some (.ins C dx vs):=by
 rcases l.h a z with e | ⟨_,_,e,_⟩
 · rw[e,h]
 · rw[h]at e;cases e
mutual
theorem Rep.mono {w w':Wd} {H H':Hp} (l:Le w H w' H'):∀ {d:D} {v:V},Rep w H d v→Rep w' H' d v
 | .non,_,h=>h
 | .bl _,_,h=>h
 | .int _,_,h=>h
 | .str _,_,h=>h
 | .ty _,_,h=>h
 | .at_ _,_,h=>h
 | .ref _,_,⟨a,e,h⟩=>⟨a,l.at_ e,h⟩
 | .lst _,_,⟨a,vs,e,z,h,r⟩=>⟨a,vs,e,l.z a z,l.lst z h,qb.mono l r⟩
 | .tup _,_,⟨a,vs,e,z,h,r⟩=>⟨a,vs,e,l.z a z,l.tup z h,qb.mono l r⟩
 | .dct _ _,_,⟨a,vs,e,z,h,n,r⟩=>⟨a,vs,e,l.z a z,(l.h a z).rd h,n,qb.mono l r⟩
 | .obj _ _ _,_,⟨a,dx,vs,e,z,h,n,r⟩=>⟨a,dx,vs,e,l.z a z,l.ins z h,n,qb.mono l r⟩
theorem qb.mono {w w':Wd} {H H':Hp} (l:Le w H w' H'):∀ {ds:List D} {vs:List V},qb w H ds vs→qb w' H' ds vs
 | [],_,h=>h
 | _::_,_,⟨v,r,e,h,t⟩=>⟨v,r,e,Rep.mono l h,qb.mono l t⟩
end
theorem qb.length {w:Wd} {H:Hp}:∀ {ds:List D} {vs:List V},qb w H ds vs→ds.length=vs.length
 | [],vs,h=>by cases (show vs=[] from h);rfl
 | _::_,_,⟨v,r,e,_,t⟩=>by rw[e,List.length_cons,List.length_cons,qb.length t]
theorem qb.get {w:Wd} {H:Hp}:∀ {ds:List D} {vs:List V} {i:Nat} {d:D},qb w H ds vs→ds[i]? =some d→∃ v,vs[i]? =some v∧Rep w H d v
 | [],_,_,_,_,e=>by simp at e
 | d'::_,_,0,d,⟨v,r,e,h,_⟩,q=>by
   subst e
   have z:d'=d:=by simpa using q
   subst z
   exact⟨v,rfl,h⟩
 | _::ds,_,i+1,d,⟨v,r,e,_,t⟩,q=>by
   subst e
   obtain ⟨u,h1,h2⟩:=qb.get (i:=i) t (by simpa using q)
   exact⟨u,by simpa using h1,h2⟩
theorem qb.get' {w:Wd} {H:Hp} {ds:List D} {vs:List V} {i:Nat} {v:V} (h:qb w H ds vs) (e:vs[i]? =some v):∃ d,ds[i]? =some d∧Rep w H d v:=by
 have hl:i < ds.length:=by rw[h.length];exact(List.getElem?_eq_some_iff.mp e).1
 obtain ⟨u,e',r⟩:=h.get (List.getElem?_eq_getElem hl)
 rw[e]at e';cases e'
 exact⟨_,List.getElem?_eq_getElem hl,r⟩
theorem qb.append {w:Wd} {H:Hp}:∀ {ds es:List D} {vs us:List V},qb w H ds vs→qb w H es us→qb w H (ds++es) (vs++us)
 | [],_,vs,_,h,k=>by cases (show vs=[] from h);exact k
 | _::_,_,_,_,⟨v,r,e,h,t⟩,k=>by subst e;exact⟨v,r++_,rfl,h,qb.append t k⟩
theorem qb.one {w:Wd} {H:Hp} {d:D} {v:V} (h:Rep w H d v):qb w H [d] [v]:=⟨v,[],rfl,h,rfl⟩
theorem qb.cons {w:Wd} {H:Hp} {d:D} {v:V} {ds:List D} {vs:List V} (h:Rep w H d v) (t:qb w H ds vs):qb w H (d::ds) (v::vs):=⟨v,vs,rfl,h,t⟩
theorem qb.set {w:Wd} {H:Hp} {d:D} {v:V} (r:Rep w H d v):∀ {ds:List D} {vs:List V} (i:Nat),qb w H ds vs→qb w H (ds.set i d) (vs.set i v)
 | [],_,_,h=>by cases (show _=[] from h);rfl
 | _::_,_,0,⟨u,s,e,h,t⟩=>by subst e;exact⟨v,s,rfl,r,t⟩
 | _::_,_,i+1,⟨u,s,e,h,t⟩=>by subst e;exact⟨u,s.set i v,rfl,h,qb.set r i t⟩
theorem qb.take {w:Wd} {H:Hp}:∀ {ds:List D} {vs:List V} (n:Nat),qb w H ds vs→qb w H (ds.take n) (vs.take n)
 | [],_,n,h=>by cases (show _=[] from h);simp [qb]
 | _::_,_,0,_=>by simp [qb]
 | _::_,_,n+1,⟨u,s,e,h,t⟩=>by subst e;exact⟨u,s.take n,rfl,h,qb.take n t⟩
theorem qb.drop {w:Wd} {H:Hp}:∀ {ds:List D} {vs:List V} (n:Nat),qb w H ds vs→qb w H (ds.drop n) (vs.drop n)
 | [],_,n,h=>by cases (show _=[] from h);simp [qb]
 | _::_,_,0,h=>h
 | _::_,_,n+1,⟨u,s,e,h,t⟩=>by subst e;exact qb.drop n t
inductive Cell where
 | gone | lst (xs:List D) | dct (ks:List Key) (xs:List D) | obj (C:Addr) (fs:List Str) (xs:List D)
noncomputable abbrev Sto:=List Cell
noncomputable def qif (w:Wd) (H:Hp) (a:Addr):Cell→Prop
 | .gone=>True
 | .lst xs=>¬ w.Z a∧∃ vs,H a=some (.lst vs)∧qb w H xs vs
 | .dct ks xs=>¬ w.Z a∧∃ vs,H a=some (.dK (ks.zip vs))∧ks.length=xs.length∧qb w H xs vs
 | .obj C fs xs=>¬ w.Z a∧∃ dx vs,H a=some (.ins C dx (fs.zip vs))∧fs.length=xs.length∧qb w H xs vs
structure qe (w:Wd) (H:Hp) (S:Sto):Prop where
 zin:∀ a,w.Z a→H a ≠ none
 len:w.ρ.length=S.length
 nd:w.ρ.Nodup
 rin:∀ a,a ∈ w.ρ→H a ≠ none
 cell:∀ (l:Nat) (a:Addr) (c:Cell),w.ρ[l]? =some a→S[l]? =some c→qif w H a c
theorem qif.mono {w w':Wd} {H H':Hp} {a:Addr} {c:Cell} (l:Le w H w' H') (e:H' a=H a) (z:¬ w.Z a→¬ w'.Z a) (h:qif w H a c):qif w' H' a c:=by
 cases c with
 | gone=>trivial
 | lst xs=>obtain ⟨n,vs,q,r⟩:=h;exact⟨z n,vs,e.trans q,r.mono l⟩
 | dct ks xs=>obtain ⟨n,vs,q,m,r⟩:=h;exact⟨z n,vs,e.trans q,m,r.mono l⟩
 | obj C fs xs=>obtain ⟨n,dx,vs,q,m,r⟩:=h;exact⟨z n,dx,vs,e.trans q,m,r.mono l⟩
noncomputable def Wd.fix (w:Wd) (p:Addr):Wd:=⟨w.ρ,fun a=>a=p∨w.Z a⟩
theorem qc4 {w:Wd} {H:Hp} {S:Sto} {p:Addr} {o:HO} (h:qe w H S) (hp:H p=none):Le w H (w.fix p) (upd H p o) :=
 ⟨List.prefix_refl _,fun _ z=>.inr z,fun a z=>.inl (qc fun e=>h.zin a z (by rw[e];exact hp))⟩
theorem qfa {w:Wd} {H:Hp} {S:Sto} {p:Addr} {o:HO} (h:qe w H S) (hp:H p=none):qe (w.fix p) (upd H p o) S:=by
 refine⟨fun a z=> ?_,h.len,h.nd,fun a m=> ?_,fun l a c e q=> ?_⟩
 · rcases z with rfl | z
   · rw[qi];simp
   · rw[qc fun e=>h.zin a z (by rw[e];exact hp)];exact h.zin a z
 · rw[qc fun e=>h.rin a m (by rw[e];exact hp)];exact h.rin a m
 · have ne:a ≠ p:=fun z=>h.rin a (List.mem_of_getElem? e) (by rw[z];exact hp)
   exact(h.cell l a c e q).mono (qc4 h hp) (qc ne) fun n z=>z.elim ne n
noncomputable def Wd.more (w:Wd) (p:Addr):Wd:=⟨w.ρ++[p],w.Z⟩
theorem qhg {w:Wd} {H:Hp} {S:Sto} {p:Addr} {o:HO} (h:qe w H S) (hp:H p=none):Le w H (w.more p) (upd H p o) :=
 ⟨List.prefix_append _ _,fun _ z=>z,fun a z=>.inl (qc fun e=>h.zin a z (by rw[e];exact hp))⟩
theorem qok {w:Wd} {H:Hp} {S:Sto} {p:Addr} {o:HO} {c:Cell} (h:qe w H S) (hp:H p=none) (hc:qif (w.more p) (upd H p o) p c):qe (w.more p) (upd H p o) (S++[c]):=by
 have nm:p ∉ w.ρ:=fun m=>h.rin p m hp
 refine⟨fun a z=> ?_,by simp [Wd.more,h.len],?_,fun a m=> ?_,fun l a c' e q=> ?_⟩
 · rw[qc fun e=>h.zin a z (by rw[e];exact hp)];exact h.zin a z
 · show (w.ρ++[p]).Nodup
   rw[List.nodup_append]
   exact⟨h.nd,by simp,fun a ha b hb=>by rw[List.mem_singleton.mp hb];rintro rfl;exact nm ha⟩
 · rcases List.mem_append.mp m with m | m
   · rw[qc fun e=>h.rin a m (by rw[e];exact hp)];exact h.rin a m
   · rw[List.mem_singleton.mp m,qi];simp
 · by_cases hl:l < S.length
   · rw[List.getElem?_append_left hl]at q
     have e':w.ρ[l]? =some a:=by
       have:(w.ρ++[p])[l]? =some a:=e
       rwa [List.getElem?_append_left (by rw[h.len];exact hl)]at this
     have ne:a ≠ p:=fun z=>h.rin a (List.mem_of_getElem? e') (by rw[z];exact hp)
     exact(h.cell l a c' e' q).mono (qhg h hp) (qc ne) id
   · have hl2:l=S.length:=by
       have:=(List.getElem?_eq_some_iff.mp q).1
       rw[List.length_append]at this
       simp at this
       omega
     subst hl2
     have:(w.ρ++[p])[S.length]? =some a:=e
     rw[← h.len,List.getElem?_append_right (Nat.le_refl _)]at this
     have:p=a:=by simpa using this
     subst this
     have:(S++[c])[S.length]? =some c':=q
     rw[List.getElem?_append_right (Nat.le_refl _)]at this
     have:c=c':=by simpa using this
     subst this
     exact hc
theorem qbh {w:Wd} {H:Hp} {a:Addr} {o:HO} (z:¬ w.Z a):Le w H w (upd H a o):=⟨List.prefix_refl _,fun _ z=>z,fun b zb=>.inl (qc fun e=>z (by rw[← e];exact zb))⟩
theorem qgi {w:Wd} {H:Hp} {S:Sto} {l:Nat} {a:Addr} {o:HO} {c:Cell} (h:qe w H S) (e:w.ρ[l]? =some a) (z:¬ w.Z a) (hc:qif w (upd H a o) a c):qe w (upd H a o) (S.set l c):=by
 refine⟨fun b zb=> ?_,by simp [h.len],h.nd,fun b m=> ?_,fun j b c' ej q=> ?_⟩
 · rw[qc fun e=>z (by rw[← e];exact zb)];exact h.zin b zb
 · by_cases hb:b=a
   · rw[hb,qi];simp
   · rw[qc hb];exact h.rin b m
 · by_cases hj:j=l
   · subst hj
     rw[e]at ej;cases ej
     rw[List.getElem?_set]at q
     simp only [if_true]at q
     split at q
     · cases q;exact hc
     · cases q
   · rw[List.getElem?_set_ne (Ne.symm hj)]at q
     have ne:b ≠ a:=fun hb=>hj (by subst hb;exact(qoj h.nd e ej).symm)
     exact(h.cell j b c' ej q).mono (qbh z) (qc ne) id
theorem qc5 (w:Wd) (H:Hp) (a:Addr):Le w H (w.fix a) H:=⟨List.prefix_refl _,fun _ z=>.inr z,fun _ _=>.inl rfl⟩
theorem qgj {w:Wd} {H:Hp} {S:Sto} {l:Nat} {a:Addr} (h:qe w H S) (e:w.ρ[l]? =some a):qe (w.fix a) H (S.set l .gone):=by
 refine⟨fun b z=> ?_,by simp [Wd.fix,h.len],h.nd,h.rin,fun j b c ej q=> ?_⟩
 · rcases z with rfl | z
   · exact h.rin b (List.mem_of_getElem? e)
   · exact h.zin b z
 · by_cases hj:j=l
   · subst hj
     rw[List.getElem?_set]at q
     simp only [if_true]at q
     split at q
     · cases q;trivial
     · cases q
   · rw[List.getElem?_set_ne (Ne.symm hj)]at q
     have ne:b ≠ a:=fun hb=>hj (by subst hb;exact(qoj h.nd e ej).symm)
     exact(h.cell j b c ej q).mono (qc5 w H a) rfl fun n z=>z.elim ne n
structure Exn where
 C:Addr
 fs:List Str
 xs:List D
inductive Out (α:Type) where
 | ok (a:α) (S:Sto) | err (x:Exn) (S:Sto) | no
noncomputable abbrev M (α:Type):=Sto→Out α
noncomputable def M.pure {α:Type} (a:α):M α:=fun S=>.ok a S
noncomputable def M.bind {α β:Type} (m:M α) (k:α→M β):M β:=fun S=>match m S with
 | .ok a S'=>k a S'
 | .err x S'=>.err x S'
 | .no=>.no
noncomputable def M.fail {α:Type}:M α:=fun _=>.no
noncomputable abbrev XW:=Exn→Wd→Hp→Prop
noncomputable def Wp {α:Type} (E:XW) (w:Wd) (H:Hp) (r:Out α) (P:α→Sto→Wd→Hp→Prop):Prop:=match r with
 | .ok a S=>∀ w' H',Le w H w' H'→qe w' H' S→P a S w' H'
 | .err x S=>∀ w' H',Le w H w' H'→qe w' H' S→E x w' H'
 | .no=>False
theorem Wp.later {α:Type} {E:XW} {w w1:Wd} {H H1:Hp} {r:Out α} {P:α→Sto→Wd→Hp→Prop} (h:Wp E w H r P) (l:Le w H w1 H1):Wp E w1 H1 r P:=by
 cases r with
 | ok a S=>exact fun w' H' l'=>h w' H' (l.trans l')
 | err x S=>exact fun w' H' l'=>h w' H' (l.trans l')
 | no=>exact h
theorem Wp.mono {α:Type} {E:XW} {w:Wd} {H:Hp} {r:Out α} {P P':α→Sto→Wd→Hp→Prop} (h:Wp E w H r P) (k:∀ a S w' H',Le w H w' H'→qe w' H' S→P a S w' H'→P' a S w' H'):Wp E w H r P':=by
 cases r with
 | ok a S=>exact fun w' H' l' q=>k a S w' H' l' q (h w' H' l' q)
 | err x S=>exact h
 | no=>exact h
theorem Wp.bind {α β:Type} {E:XW} {w:Wd} {H:Hp} {m:M α} {k:α→M β} {S:Sto} {P:β→Sto→Wd→Hp→Prop} (h:Wp E w H (M.bind m k S) P) :
   Wp E w H (m S) (fun a S1 w1 H1=>Wp E w1 H1 (k a S1) P):=by
 unfold M.bind at h
 cases e:m S with
 | ok a S1=>rw[e]at h;exact fun w' H' l _=>Wp.later h l
 | err x S1=>rw[e]at h;exact h
 | no=>rw[e]at h;exact h
noncomputable abbrev Env:=List (Option D)
structure Rel (w:Wd) (H:Hp) (σ:St) (Γ:Env):Prop where
 len:Γ.length=σ.length
 at_:∀ (i:Nat) (d:D),Γ[i]? =some (some d)→∃ v,σ[i]? =some (some v)∧Rep w H d v
theorem Rel.mono {w w':Wd} {H H':Hp} {σ:St} {Γ:Env} (r:Rel w H σ Γ) (l:Le w H w' H'):Rel w' H' σ Γ:=⟨r.len,fun i d e=>let ⟨v,e',h⟩:=r.at_ i d e;⟨v,e',h.mono l⟩⟩
theorem Rel.set {w:Wd} {H:Hp} {σ:St} {Γ:Env} {i:Nat} {d:D} {v:V} (r:Rel w H σ Γ) (h:Rep w H d v):Rel w H (σ.set i (some v)) (Γ.set i (some d)):=by
 refine⟨by simp [r.len],fun j e q=> ?_⟩
 by_cases hj:j=i
 · subst hj
   rw[List.getElem?_set]at q
   simp only [if_true]at q
   split at q
   · rename_i hl
     cases q
     exact⟨v,by simp [List.getElem?_set,r.len ▸ hl],h⟩
   · cases q
 · rw[List.getElem?_set_ne (Ne.symm hj)]at q ⊢
   exact r.at_ j e q
noncomputable def tD (E:XW) (f:Env→M D):TE:=fun σ H Q=>∃ w Γ S,Rel w H σ Γ∧qe w H S∧Wp E w H (f Γ S) fun d _ w' H'=>∀ v,Rep w' H' d v→Q v H'
noncomputable def tB (E:XW) (f:Env→M Bool):TT:=fun σ H Q=>∃ w Γ S,Rel w H σ Γ∧qe w H S∧Wp E w H (f Γ S) fun b _ _ H'=>Q b H'
noncomputable def tL (E:XW) (f:Env→M (List D)):TA:=fun σ H Q=>∃ w Γ S,Rel w H σ Γ∧qe w H S∧Wp E w H (f Γ S) fun ds _ w' H'=>∀ vs,qb w' H' ds vs→Q vs H'
theorem PE.mono {X:Cx} {e:Expr} {t t':TE} (h:PE X e t) (k:∀ σ H Q,t' σ H Q→t σ H Q):PE X e t':=fun pins s σ H Q I q=>h pins s σ H Q I (k σ H Q q)
theorem PT.mono {X:Cx} {e:Expr} {t t':TT} (h:PT X e t) (k:∀ σ H Q,t' σ H Q→t σ H Q):PT X e t':=fun pins s σ H Q I q=>h pins s σ H Q I (k σ H Q q)
theorem PA.mono {X:Cx} {e:List Expr} {t t':TA} (h:PA X e t) (k:∀ σ H Q,t' σ H Q→t σ H Q):PA X e t':=fun pos pins s σ H Q I q=>h pos pins s σ H Q I (k σ H Q q)
theorem PS.mono {X:Cx} {e:Stmt} {t t':TS} (h:PS X e t) (k:∀ D σ H,t' D σ H→t D σ H):PS X e t':=fun pins s σ H D I q=>h pins s σ H D I (k D σ H q)
theorem PSs.mono {X:Cx} {e:List Stmt} {t t':TS} (h:PSs X e t) (k:∀ D σ H,t' D σ H→t D σ H):PSs X e t':=fun pins s σ H D I q=>h pins s σ H D I (k D σ H q)
theorem qd {α:Type} {E:XW} {f:Env→M D} {k:D→Env→M α} {σ:St} {H:Hp} {w:Wd} {Γ:Env} {S:Sto} {P:α→Sto→Wd→Hp→Prop} {Q:VK} (r:Rel w H σ Γ) (h:qe w H S)
   (q:Wp E w H (M.bind (f Γ) (fun d=>k d Γ) S) P)
   (hk:∀ d v S1 w1 H1,Le w H w1 H1→Rel w1 H1 σ Γ→qe w1 H1 S1→Rep w1 H1 d v→Wp E w1 H1 (k d Γ S1) P→Q v H1):tD E f σ H Q :=
 ⟨w,Γ,S,r,h,(Wp.bind q).mono fun d S1 w1 H1 l h1 q1 v rv=>hk d v S1 w1 H1 l (r.mono l) h1 rv q1⟩
end T3
namespace L2
open PySem PySem.Spec PyProof.Rows
section
variable {X:Cx} {pins:List (Addr × Obj)} {σ:St} {H:Hp} {s:Shared}
end
section
variable {X:Cx}
noncomputable def qaaf (K:PySem.W.Frag):List V→Hp→VK→Prop:=fun vs H Q=>∃ (l:Addr) (ns:List Int),vs=[.ref l]∧SqL K H l (ns.map V.int)∧0 < ns.length∧∀ M,M ∈ ns→(∀ a,a ∈ ns→M≤a)→Q (.int M) H
theorem qrt:∀ {ns:List Int} {its:List Value},Vals (ns.map V.int) its→IntsAre its ns
 | [],its,h=>by cases h;exact .nil
 | n ::ns,its,h=>by
   cases h with
   | cons r t =>
     obtain ⟨k,rfl⟩:=r
     exact .cons n k (qrt t)
theorem qxi (hc:X.calm=true):qaj X (.builtin "min") (qaaf X.K):=by
 intro pins s σ H xs us Q I r h
 obtain ⟨l,ns,rfl,hq,hne,q⟩:=h
 obtain ⟨u,rfl,ru⟩:=r.one
 cases ru
 obtain ⟨its,rv,p,hz⟩:=I.list hq
 have hi:=qrt rv
 obtain ⟨ys,e⟩:=hi.allInts.items
 have hns:ns=ys.toList.map (·.1):=by rw[← hi.numsOf,← nums_intItems,← e]
 have hsz:0 < ys.size:=by
   have h3:=hne;rw[hns,List.length_map,Array.length_toList]at h3;exact h3
 have hl:=p.isList
 rw[e]at hl
 refine min_intList (I.ok.hd hc) hl hsz fun v h' tk hv hk=> ?_
 obtain ⟨t,rfl⟩:=intItems_at hv
 obtain ⟨h1,h2⟩:=argBest_lt (numAt ys) (ys.size - 1)
 refine⟨.int _,H,I.kept hk,⟨_,rfl⟩,q _ ?_ fun a ha=> ?_⟩
 · rw[hns,numAt_eq];exact getD_mem (by rw[List.length_map,Array.length_toList];omega)
 · rw[hns]at ha
   obtain ⟨j,hj,rfl⟩:=mem_getD ha
   rw[List.length_map,Array.length_toList]at hj
   rw[← numAt_eq];exact h2 j (by omega)
end
section
variable {prog:Program} {w:World} {A:Around} {E:Value→Shared→Prop}
theorem qaag {it l:Addr} {vs:Array Value} (hne:l ≠ it) (n:Nat):∀ (i:Nat) (s:Shared) (Q:List Value→Shared→Prop),s.heap.IsListIter it l i→s.heap.IsList l vs→i+n≤vs.size →
   (∀ h',h'.IsListIter it l (i+n)→Heap.SameBut it s.heap h'→Q ((vs.toList.drop i).take n) { s with heap:=h' })→wpAny (model prog w) A (draw (.ref it) n) Q E s:=by
 induction n with
 | zero =>
   intro i s Q hit _ _ q
   have q0:=q s.heap hit (Heap.SameBut.refl ..)
   rw[List.take_zero]at q0
   exact wpAny_pure q0
 | succ n ih =>
   intro i s Q hit ht hle q
   have hlt:i < vs.size:=by omega
   have e:(vs.toList.drop i).take (n+1)=vs[i]::(vs.toList.drop (i+1)).take n:=by
     rw[show vs.toList.drop i=vs[i]::vs.toList.drop (i+1)by simp [List.drop_eq_getElem_cons,hlt],List.take_succ_cons]
   unfold draw
   refine wpAny_bind (wpAny_pyNext_list_item hit ht (x:=vs[i]) (by simp [hlt]) fun h1 hit1 hs1=>wpAny_bind (wpAny_holding (ih (i+1) _ _ hit1 (ht.extBut hs1.extBut hne) (by omega) fun h2 hit2 hs2=>wpAny_pure ?_)))
   have q':=q h2 (by rw[show i+(n+1)=i+1+n by omega];exact hit2) (hs1.trans hs2)
   rwa [e]at q'
theorem q2l {s:Shared} {l:Addr} {vs:Array Value} {Q:List Value→Shared→Prop} (hh:A.handled=none) (ht:s.heap.IsList l vs)
   (q:∀ h',Heap.ExtBut s.heap.objs.size s.heap h'→Q vs.toList { s with heap:=h' }):wpAny (model prog w) A (unpackItems (.ref l) vs.size none) Q E s:=by
 have hlt:l ≠ s.heap.objs.size:=by obtain ⟨o,ho,_⟩:=ht;exact Nat.ne_of_lt (Heap.lt_size ho)
 have e:(vs.toList.drop 0).take vs.size=vs.toList:=by rw[List.drop_zero,List.take_of_length_le (by simp)]
 unfold unpackItems notIterableAtAll
 refine wpAny_bind (wpAny_bind (wpAny_specialOf ht.typeIs slot_list_iter.lookup (wpAny_pure ?_)))
 simp only [Bool.false_eq_true,if_false]
 refine wpAny_bind (wpAny_holding (wpAny_pyIter_list ht (wpAny_bind (wpAny_holding (qaag hlt vs.size 0 _ _ ⟨_,Heap.get?_push_size _ rfl,rfl,rfl⟩ (ht.push _) (by omega) fun h1 hit1 hs1=> ?_)))))
 rw[e,if_neg (by simp)]
 refine wpAny_bind (wpAny_holding (wpAny_pyNext_list_end hh hit1 ((ht.push _).extBut hs1.extBut hlt) (by simp) fun h2 he2=> ?_))
 simp only [Option.isSome_none,Bool.false_eq_true,if_false]
 exact wpAny_pure (q h2 fun b o hb eb=>he2 b o hb (hs1.extBut b o hb (Heap.get?_push_of_some _ eb)))
end
section
variable {X:Cx}
noncomputable def qaah (K:PySem.W.Frag) (n:Nat) (t:TGs):TG:=fun v σ H Q=>∃ a xs,v=.ref a∧SqL K H a xs∧xs.length=n∧t xs σ H Q
theorem q2m {es:List Expr} {k:Nat} {t:TGs} {n:Nat} {pos:Pos} (hc:X.calm=true) (h:PGs X es t)
   (hn:(assignEach es X.env).length=n:=by rfl) (hst:(assignEach es X.env).findIdx? (·.1)=none:=by rfl):PG X (.Tuple es k pos) (qaah X.K n t):=by
 intro pins s σ H v u Q I r hw
 obtain ⟨a,xs,e1,hq,hl,hw⟩:=hw
 subst e1
 cases r
 obtain ⟨its,rv,p,hz⟩:=I.list hq
 have hlen:=rv.length
 rw[arm_assign_Tuple]
 refine wpAny_bind (wpAny_standAt ?_)
 unfold unpack
 rw[show (assignEach es X.env).length=its.toArray.size by simp [hn,← hl,rv.length],hst]
 refine wpAny_bind (wpAny_holding (q2l (I.ok.hd hc) p.isList fun h' hx=> ?_))
 have I1:Inv X pins σ H { s with heap:=h' }:=I.kept (t':=s.toks) fun b o e=>hx b o (Nat.ne_of_lt (Heap.lt_size e)) e
 exact h pins _ σ H xs _ Q I1 (by simpa using rv) hw
noncomputable def qvs (i j:Int):Prop:=(-2582249878086908589655919172003011874329705792829223512830659356540647622016841194629645353280137831435903171972747493376 < i∧i < 2582249878086908589655919172003011874329705792829223512830659356540647622016841194629645353280137831435903171972747493376)∧ -2582249878086908589655919172003011874329705792829223512830659356540647622016841194629645353280137831435903171972747493376 < j∧j < 2582249878086908589655919172003011874329705792829223512830659356540647622016841194629645353280137831435903171972747493376
theorem qru {k:Int} (h1: -2582249878086908589655919172003011874329705792829223512830659356540647622016841194629645353280137831435903171972747493376 < k) (h2:k < 2582249878086908589655919172003011874329705792829223512830659356540647622016841194629645353280137831435903171972747493376):Builtin.Int.intBits k≤2 ^ 20:=by
 unfold Builtin.Int.intBits
 split
 · exact Nat.zero_le _
 · have hn:k.natAbs < 2582249878086908589655919172003011874329705792829223512830659356540647622016841194629645353280137831435903171972747493376:=by omega
   have hn2:k.natAbs < 2 ^ 400:=by
     have:(2:Nat) ^ 400=2582249878086908589655919172003011874329705792829223512830659356540647622016841194629645353280137831435903171972747493376:=by decide +kernel
     rw[this];exact hn
   have h0:k.natAbs ≠ 0:=by
     rename_i h
     intro z
     apply h
     have:k=0:=by omega
     rw[this];rfl
   have:=(Nat.log2_lt h0).mpr hn2
   have e:(2:Nat) ^ 20=1048576:=by decide
   omega
theorem q2n:OpR X (binaryOp .Mult) (rI qvs fun i j=>.int (i * j)):=opI fun _ _ _ _ _ _ _ hc q=>mul_int q (.of_bits (qru hc.1.1 hc.1.2) (qru hc.2.1 hc.2.2))
end
end L2
namespace T3
open PySem PySem.Spec PyProof.Rows L2
noncomputable def D.flat:D→Option V
 | .non=>some .non
 | .bl b=>some (.bl b)
 | .int i=>some (.int i)
 | .str x=>some (.str x)
 | _=>none
mutual
noncomputable def eqD:D→D→Option Bool
 | .lst xs,y=>match y with
   | .lst ys=>if xs.length=ys.length then qa9 xs ys else some false
   | _=>none
 | .tup xs,y=>match y with
   | .tup ys=>if xs.length=ys.length then qa9 xs ys else none
   | _=>none
 | .non,y=>y.flat.map (eqV .non)
 | .bl b,y=>y.flat.map (eqV (.bl b))
 | .int i,y=>y.flat.map (eqV (.int i))
 | .str x,y=>y.flat.map (eqV (.str x))
 | _,_=>none
noncomputable def qa9:List D→List D→Option Bool
 | [],ys=>match ys with
   | []=>some true
   | _=>none
 | x ::xs,ys=>match ys with
   | y::ys=>match eqD x y,qa9 xs ys with
     | some a,some b=>some (a && b)
     | _,_=>none
   | []=>none
end
mutual
noncomputable def D.dep:D→Nat
 | .lst xs=>qj6 xs+1
 | .tup xs=>qj6 xs+1
 | _=>0
noncomputable def qj6:List D→Nat
 | []=>0
 | d::ds=>max d.dep (qj6 ds)
end
theorem qgk:∀ {ds:List D} {i:Nat} {d:D},ds[i]? =some d→d.dep≤qj6 ds
 | [],_,_,e=>by simp at e
 | x::xs,0,d,e=>by
   have:x=d:=by simpa using e
   subst this
   exact Nat.le_max_left _ _
 | x::xs,i+1,d,e=>Nat.le_trans (qgk (ds:=xs) (i:=i) (by simpa using e)) (Nat.le_max_right _ _)
theorem qvt:∀ {xs ys:List D} {b:Bool} {j:Nat} {x y:D},qa9 xs ys=some b→xs[j]? =some x→ys[j]? =some y→∃ c,eqD x y=some c
 | [],ys,_,j,x,y,_,h1,_=>by simp at h1
 | _::_,[],_,j,x,y,_,_,h2=>by simp at h2
 | a ::xs,c::ys,b,j,x,y,h,h1,h2=>by
   rw[qa9]at h
   cases e1:eqD a c with
   | none=>rw[e1]at h;simp at h
   | some p =>
     cases e2:qa9 xs ys with
     | none=>rw[e1,e2]at h;simp at h
     | some q =>
       cases j with
       | zero =>
         simp at h1 h2
         subst h1 h2
         exact⟨p,e1⟩
       | succ j=>exact qvt e2 (by simpa using h1) (by simpa using h2)
noncomputable def qey (xs ys:List D) (j:Nat):Bool:=(eqD (xs.getD j .non) (ys.getD j .non)).getD false
theorem qc6:∀ {xs ys:List D} {b:Bool},qa9 xs ys=some b→(List.range xs.length).all (qey xs ys)=b
 | [],[],b,h=>by simp [qa9]at h;simp [h]
 | [],_::_,_,h=>by simp [qa9]at h
 | _::_,[],_,h=>by simp [qa9]at h
 | x ::xs,y::ys,b,h=>by
   rw[qa9]at h
   cases e1:eqD x y with
   | none=>rw[e1]at h;simp at h
   | some p =>
     cases e2:qa9 xs ys with
     | none=>rw[e1,e2]at h;simp at h
     | some q =>
       rw[e1,e2]at h
       have h:(p && q)=b:=by simpa using h
       rw[List.length_cons,List.range_succ_eq_map,List.all_cons,List.all_map]
       have e3:(qey (x::xs) (y::ys) ∘ Nat.succ)=qey xs ys:=rfl
       rw[e3,qc6 e2,← h]
       have:qey (x::xs) (y::ys) 0=p:=by show (eqD x y).getD false=p;rw[e1];rfl
       rw[this]
theorem qk8 {w:Wd} {H:Hp} {d:D} {v x:V} (h:Rep w H d v) (f:d.flat=some x):v=x∧qod v=true:=by
 cases d <;> simp only [D.flat]at f <;> cases f <;> (simp only [Rep]at h;subst h;exact⟨rfl,rfl⟩)
section
variable {X:Cx} {pins:List (Addr × Obj)} {σ:St} {H:Hp} {s:Shared}
theorem qbq {w:Wd} {A:Around} {d e:D} {x y z:V} {v u:Value} {b:Bool} (hz:d.flat=some z) (q:e.flat.map (eqV z)=some b) (hx:Rep w H d x) (hy:Rep w H e y) (rx:RelV x v) (ry:RelV y u):SeqAt.EqAt A s v u b:=by
 obtain ⟨rfl,f1⟩:=qk8 hx hz
 cases he:e.flat with
 | none=>rw[he]at q;simp at q
 | some z' =>
   rw[he]at q
   obtain ⟨rfl,f2⟩:=qk8 hy he
   have:eqV x y=b:=by simpa using q
   subst this
   exact q57 rx ry f1 f2
theorem qfz {w:Wd} {xs ys:List D} {vs ws:List V} {ia ib:List Value} {b:Bool} (hvs:qb w H xs vs) (hws:qb w H ys ws) (ra:Vals vs ia) (rb:Vals ws ib) (hb:qa9 xs ys=some b) {j:Nat} (h1:j < ia.length) (h2:j < ib.length) :
   ∃ x y v u,xs[j]? =some x∧eqD x y=some (qey xs ys j)∧Rep w H x v∧Rep w H y u∧RelV v ia[j]∧RelV u ib[j]:=by
 have la:=ra.length;have lb:=rb.length
 have l1:=hvs.length;have l2:=hws.length
 have hx:j < xs.length:=by omega
 have hy:j < ys.length:=by omega
 obtain ⟨v1,e1,q1⟩:=hvs.get (List.getElem?_eq_getElem hx)
 obtain ⟨v2,e2,q2⟩:=hws.get (List.getElem?_eq_getElem hy)
 obtain ⟨u1,f1,s1⟩:=ra.get e1
 obtain ⟨u2,f2,s2⟩:=rb.get e2
 obtain ⟨c,hc⟩:=qvt hb (List.getElem?_eq_getElem hx) (List.getElem?_eq_getElem hy)
 obtain ⟨_,g1⟩:=List.getElem?_eq_some_iff.mp f1
 obtain ⟨_,g2⟩:=List.getElem?_eq_some_iff.mp f2
 refine⟨xs[j],ys[j],v1,v2,List.getElem?_eq_getElem hx,?_,q1,q2,by rw[g1];exact s1,by rw[g2];exact s2⟩
 have z1:xs.getD j .non=xs[j]:=by simp [hx]
 have z2:ys.getD j .non=ys[j]:=by simp [hy]
 unfold qey
 rw[z1,z2,hc]
 rfl
mutual
theorem Rep.uniq {w:Wd}:∀ {d e:D} {v:V} {b:Bool},Rep w H d v→Rep w H e v→eqD d e=some b→b=true
 | .non,e,v,b,h,k,q=>by
   simp only [Rep]at h;subst h
   cases e <;> simp only [Rep]at k <;> simp [eqD,D.flat,eqV]at q k <;> first | exact q.symm ▸ rfl | done
 | .bl x,e,v,b,h,k,q=>by
   simp only [Rep]at h;subst h
   cases e <;> simp only [Rep]at k <;> simp [eqD,D.flat,eqV]at q k <;> first | (subst k;simpa using q.symm) | done
 | .int x,e,v,b,h,k,q=>by
   simp only [Rep]at h;subst h
   cases e <;> simp only [Rep]at k <;> simp [eqD,D.flat,eqV]at q k <;> first | (subst k;simpa using q.symm) | done
 | .str x,e,v,b,h,k,q=>by
   simp only [Rep]at h;subst h
   cases e <;> simp only [Rep]at k <;> simp [eqD,D.flat,eqV]at q k <;> first | (subst k;simpa using q.symm) | done
 | .lst xs,e,v,b,⟨a,vs,e1,_,h1,r⟩,k,q=>by
   cases e with
   | lst ys =>
     obtain ⟨a',vs',e2,_,h2,r'⟩:=k
     rw[e1]at e2;cases e2
     rw[h1]at h2;cases h2
     rw[eqD]at q
     simp only [show xs.length=ys.length by rw[r.length,r'.length],if_true]at q
     exact qb.uniq r r' q
   | _=>simp [eqD]at q
 | .tup xs,e,v,b,⟨a,vs,e1,_,h1,r⟩,k,q=>by
   cases e with
   | tup ys =>
     obtain ⟨a',vs',e2,_,h2,r'⟩:=k
     rw[e1]at e2;cases e2
     rw[h1]at h2;cases h2
     rw[eqD]at q
     simp only [show xs.length=ys.length by rw[r.length,r'.length],if_true]at q
     exact qb.uniq r r' q
   | _=>simp [eqD]at q
 | .ty _,_,_,_,_,_,h=>by simp [eqD]at h
 | .at_ _,_,_,_,_,_,h=>by simp [eqD]at h
 | .ref _,_,_,_,_,_,h=>by simp [eqD]at h
 | .dct _ _,_,_,_,_,_,h=>by simp [eqD]at h
 | .obj _ _ _,_,_,_,_,_,h=>by simp [eqD]at h
theorem qb.uniq {w:Wd}:∀ {ds es:List D} {vs:List V} {b:Bool},qb w H ds vs→qb w H es vs→qa9 ds es=some b→b=true
 | [],[],_,b,_,_,h=>by simp [qa9]at h;exact h.symm ▸ rfl
 | [],_::_,_,_,_,_,h=>by simp [qa9]at h
 | _::_,[],_,_,_,_,h=>by simp [qa9]at h
 | d ::ds,e::es,_,b,⟨v,r,e1,hd,t⟩,⟨v',r',e2,hd',t'⟩,h=>by
   rw[e1]at e2;cases e2
   rw[qa9]at h
   cases e1:eqD d e with
   | none=>rw[e1]at h;simp at h
   | some p =>
     cases e2:qa9 ds es with
     | none=>rw[e1,e2]at h;simp at h
     | some q =>
       rw[e1,e2]at h
       have h:(p && q)=b:=by simpa using h
       rw[← h,Rep.uniq hd hd' e1,qb.uniq t t' e2]
       rfl
end
theorem qk9 {w:Wd} (I:Inv X pins σ H s):∀ (n:Nat) (A:Around) (d e:D) (x y:V) (v u:Value) (b:Bool),d.dep≤n→A.units+n < cLine→eqD d e=some b→Rep w H d x→Rep w H e y→RelV x v→RelV y u→SeqAt.EqAt A s v u b:=by
 intro n
 induction n with
 | zero =>
   intro A d e x y v u b hd hu hb hx hy rx ry
   cases d with
   | lst xs=>simp [D.dep]at hd
   | tup xs=>simp [D.dep]at hd
   | non=>exact qbq (d:=.non) rfl (by simpa [eqD]using hb) hx hy rx ry
   | bl b=>exact qbq (d:=.bl b) rfl (by simpa [eqD]using hb) hx hy rx ry
   | int i=>exact qbq (d:=.int i) rfl (by simpa [eqD]using hb) hx hy rx ry
   | str z=>exact qbq (d:=.str z) rfl (by simpa [eqD]using hb) hx hy rx ry
   | _=>simp [eqD]at hb
 | succ n ih =>
   intro A d e x y v u b hd hu hb hx hy rx ry
   cases d with
   | non=>exact qbq (d:=.non) rfl (by simpa [eqD]using hb) hx hy rx ry
   | bl b=>exact qbq (d:=.bl b) rfl (by simpa [eqD]using hb) hx hy rx ry
   | int i=>exact qbq (d:=.int i) rfl (by simpa [eqD]using hb) hx hy rx ry
   | str z=>exact qbq (d:=.str z) rfl (by simpa [eqD]using hb) hx hy rx ry
   | lst xs =>
     cases e with
     | lst ys =>
       have hx0:=hx;have hy0:=hy;have hb0:=hb
       obtain ⟨a,vs,rfl,_,ha,hvs⟩:=hx
       obtain ⟨c,ws,rfl,_,hc,hws⟩:=hy
       cases (show v=Value.ref a from rx);cases (show u=Value.ref c from ry)
       by_cases hab:a=c
       · subst hab
         rw[Rep.uniq hx0 hy0 hb0]
         exact .same _
       obtain ⟨ia,ra,pa,_⟩:=I.list (SqL.of ha)
       obtain ⟨ib,rb,pb,_⟩:=I.list (SqL.of hc)
       have la:=ra.length;have lb:=rb.length
       have l1:=hvs.length;have l2:=hws.length
       rw[eqD]at hb
       by_cases hxy:xs.length=ys.length
       case neg =>
         have:=SeqAt.RcAt.lists_lengths (A:=A) (s:=s) pa.isList pb.isList (by simp;omega) (by omega)
         simp only [hxy,if_false]at hb
         cases hb
         exact .of_refs hab this
       simp only [hxy,if_true]at hb
       have:=SeqAt.RcAt.lists (A:=A) (e:=qey xs ys) pa.isList pb.isList (by simp;omega) (by omega) (fun j h1 h2=> ?_)
       · rw[show ia.toArray.size=xs.length by simp;omega,qc6 hb]at this
         exact .of_refs hab this
       · simp only [List.size_toArray]at h1 h2
         obtain ⟨x1,y1,v1,w1,e1,q0,q1,q2,s1,s2⟩:=qfz hvs hws ra rb hb h1 h2
         have hdj:=qgk e1
         simp only [D.dep]at hd
         exact ih A.in1 _ _ _ _ _ _ _ (by omega) (by show A.units+1+n < cLine;omega) q0 q1 q2 s1 s2
     | _=>simp [eqD]at hb
   | tup xs =>
     cases e with
     | tup ys =>
       have hx0:=hx;have hy0:=hy;have hb0:=hb
       obtain ⟨a,vs,rfl,_,ha,hvs⟩:=hx
       obtain ⟨c,ws,rfl,_,hc,hws⟩:=hy
       cases (show v=Value.ref a from rx);cases (show u=Value.ref c from ry)
       by_cases hab:a=c
       · subst hab
         rw[Rep.uniq hx0 hy0 hb0]
         exact .same _
       obtain ⟨ia,ra,pa,_⟩:=I.tuple (SqT.of ha)
       obtain ⟨ib,rb,pb,_⟩:=I.tuple (SqT.of hc)
       have la:=ra.length;have lb:=rb.length
       have l1:=hvs.length;have l2:=hws.length
       rw[eqD]at hb
       by_cases hxy:xs.length=ys.length
       case neg=>simp [hxy]at hb
       simp only [hxy,if_true]at hb
       have:=SeqAt.RcAt.tuples (A:=A) (e:=qey xs ys) (show s.heap.IsTuple a ia.toArray from pa) (show s.heap.IsTuple c ib.toArray from pb) (by omega) (fun j h1 h2=> ?_)
       · rw[show ib.toArray.size=ia.toArray.size by simp;omega,Nat.min_self,show ia.toArray.size=xs.length by simp;omega,qc6 hb]at this
         simp only [beq_self_eq_true,Bool.and_true]at this
         exact .of_refs hab this
       · simp only [List.size_toArray]at h1 h2
         obtain ⟨x1,y1,v1,w1,e1,q0,q1,q2,s1,s2⟩:=qfz hvs hws ra rb hb h1 h2
         have hdj:=qgk e1
         simp only [D.dep]at hd
         exact ih A.in1 _ _ _ _ _ _ _ (by omega) (by show A.units+1+n < cLine;omega) q0 q1 q2 s1 s2
     | _=>simp [eqD]at hb
   | _=>simp [eqD]at hb
end
noncomputable def look (d:D) (S:Sto):D:=match d with
 | .ref l=>match S[l]? with
   | some (.lst xs)=>.lst xs
   | some (.dct ks xs)=>.dct ks xs
   | some (.obj C fs xs)=>.obj C fs xs
   | _=>.ref l
 | d=>d
noncomputable abbrev PV (Q:VK):D→Sto→Wd→Hp→Prop:=fun d _ w' H'=>∀ v,Rep w' H' d v→Q v H'
section
variable {E:XW} {w:Wd} {H:Hp} {S:Sto} {d:D} {v:V} {Q:VK}
theorem qj {xs:List D} (h:qe w H S) (r:Rep w H d v) (e:look d S=.lst xs):∃ a vs,v=.ref a∧H a=some (.lst vs)∧qb w H xs vs:=by
 cases d with
 | lst ys=>cases e;obtain ⟨a,vs,e1,_,e2,e3⟩:=r;exact⟨a,vs,e1,e2,e3⟩
 | ref l =>
   unfold look at e
   dsimp only at e
   cases q:S[l]? with
   | none=>rw[q]at e;cases e
   | some c =>
     rw[q]at e
     obtain ⟨a,e1,e2⟩:=r
     have k:=h.cell l a c e1 q
     cases c with
     | lst ys=>cases e;obtain ⟨_,vs,k1,k2⟩:=k;exact⟨a,vs,e2,k1,k2⟩
     | _=>cases e
 | _=>cases e
theorem qaf {xs:List D} (h:qe w H S) (r:Rep w H d v) (e:look d S=.tup xs):∃ a vs,v=.ref a∧H a=some (.tup vs)∧qb w H xs vs:=by
 cases d with
 | tup ys=>cases e;obtain ⟨a,vs,e1,_,e2,e3⟩:=r;exact⟨a,vs,e1,e2,e3⟩
 | ref l =>
   unfold look at e
   dsimp only at e
   cases q:S[l]? with
   | none=>rw[q]at e;cases e
   | some c=>rw[q]at e;cases c <;> cases e
 | _=>cases e
theorem qc7 {ks:List Key} {xs:List D} (h:qe w H S) (r:Rep w H d v) (e:look d S=.dct ks xs):∃ a vs,v=.ref a∧Rd H a (.dK (ks.zip vs))∧ks.length=xs.length∧qb w H xs vs:=by
 cases d with
 | dct js ys=>cases e;obtain ⟨a,vs,e1,_,e2,e3⟩:=r;exact⟨a,vs,e1,e2,e3⟩
 | ref l =>
   unfold look at e
   dsimp only at e
   cases q:S[l]? with
   | none=>rw[q]at e;cases e
   | some c =>
     rw[q]at e
     obtain ⟨a,e1,e2⟩:=r
     have k:=h.cell l a c e1 q
     cases c with
     | dct js ys=>cases e;obtain ⟨_,vs,k1,k2⟩:=k;exact⟨a,vs,e2,.inl k1,k2⟩
     | _=>cases e
 | _=>cases e
theorem qbr {z:V} (r:Rep w H d v) (e:(look d S).flat=some z):v=z∧qod v=true:=by
 cases d with
 | ref l =>
   unfold look at e
   dsimp only at e
   cases q:S[l]? with
   | none=>rw[q]at e;cases e
   | some c=>rw[q]at e;cases c <;> cases e
 | _=>exact qk8 r e
theorem qr {i:Int} (r:Rep w H d v) (e:look d S=.int i):v=.int i:=(qbr (S:=S) r (by rw[e];rfl)).1
theorem qbv {i:Str} (r:Rep w H d v) (e:look d S=.str i):v=.str i:=(qbr (S:=S) r (by rw[e];rfl)).1
theorem qvu {i:Bool} (r:Rep w H d v) (e:look d S=.bl i):v=.bl i:=(qbr (S:=S) r (by rw[e];rfl)).1
theorem qhh (r:Rep w H d v) (e:look d S=.non):v=.non:=(qbr (S:=S) r (by rw[e];rfl)).1
end
noncomputable def D.cell:D→Cell
 | .lst xs=>.lst xs
 | .dct ks xs=>.dct ks xs
 | .obj C fs xs=>.obj C fs xs
 | _=>.gone
noncomputable def alloc (new:Bool) (d:D):M D:=fun S=>if new then .ok (.ref S.length) (S++[d.cell])else .ok d S
section
variable {E:XW} {w:Wd} {H:Hp} {S:Sto} {Q:VK} {new:Bool} {p:Addr}
theorem qe.noZ (h:qe w H S) (hp:H p=none):¬ w.Z p:=fun z=>h.zin p z hp
theorem qaw {xs:List D} {vs:List V} (h:qe w H S) (r:qb w H xs vs) (q:Wp E w H (alloc new (.lst xs) S) (PV Q)) (hp:H p=none):Q (.ref p) (upd H p (.lst vs)):=by
 cases new with
 | false=>exact q _ _ (qc4 h hp) (qfa h hp) _ ⟨p,vs,rfl,.inl rfl,qi,r.mono (qc4 h hp)⟩
 | true=>exact q _ _ (qhg h hp) (qok h hp ⟨h.noZ hp,vs,qi,r.mono (qhg h hp)⟩) _ ⟨p,by simp [Wd.more,← h.len],rfl⟩
theorem qol {ks:List Key} {xs:List D} {vs:List V} (h:qe w H S) (hl:ks.length=xs.length) (r:qb w H xs vs) (q:Wp E w H (alloc new (.dct ks xs) S) (PV Q)) (hp:H p=none):Q (.ref p) (upd H p (.dK (ks.zip vs))):=by
 cases new with
 | false=>exact q _ _ (qc4 h hp) (qfa h hp) _ ⟨p,vs,rfl,.inl rfl,.inl qi,hl,r.mono (qc4 h hp)⟩
 | true=>exact q _ _ (qhg h hp) (qok h hp ⟨h.noZ hp,vs,qi,hl,r.mono (qhg h hp)⟩) _ ⟨p,by simp [Wd.more,← h.len],rfl⟩
theorem qkm {xs:List D} {vs:List V} (h:qe w H S) (r:qb w H xs vs) (q:Wp E w H (M.pure (.tup xs) S) (PV Q)) (hp:H p=none):Q (.ref p) (upd H p (.tup vs)) :=
 q _ _ (qc4 h hp) (qfa h hp) _ ⟨p,vs,rfl,.inl rfl,qi,r.mono (qc4 h hp)⟩
theorem now {d:D} {v:V} (h:qe w H S) (r:Rep w H d v) (q:Wp E w H (M.pure d S) (PV Q)):Q v H:=q _ _ (Le.refl _ _) h v r
end
noncomputable def OpT (X:Cx) (F:Value→Value→Sem Value) (h:D→D→M D):Prop:=∃ r:R2,OpR X F r∧∀ (E:XW) w H S dx dy x y Q,qe w H S→Rep w H dx x→Rep w H dy y→Wp E w H (h dx dy S) (PV Q)→r x y H Q
noncomputable def sizeOk (n:Nat):Bool:=decide (n≤sizeLine)
noncomputable instance (i j:Int):Decidable (qw2 i j):=by unfold qw2;infer_instance
noncomputable instance (i j:Int):Decidable (qvs i j):=by unfold qvs;infer_instance
noncomputable def qez (i j:Int):Bool:=decide (qw2 i j) || decide (qvs i j)
noncomputable instance (i j:Int):Decidable (qe5 i j):=by unfold qe5;infer_instance
noncomputable instance (i j:Int):Decidable (qpc i j):=by unfold qpc;infer_instance
noncomputable def qxj (new:Bool):D→D→M D
 | .int i,.int j=>M.pure (.int (i+j))
 | .str a,.str b=>if sizeOk (a.length+b.length)then M.pure (.str (a++b))else M.fail
 | .lst xs,.lst ys=>if sizeOk (xs.length+ys.length)then alloc new (.lst (xs++ys))else M.fail
 | .tup xs,.tup ys=>if !xs.isEmpty && sizeOk (xs.length+ys.length)then M.pure (.tup (xs++ys))else M.fail
 | _,_=>M.fail
noncomputable def qxk:D→D→M D
 | .int i,.int j=>M.pure (.int (i - j))
 | _,_=>M.fail
noncomputable def qxl (new:Bool):D→D→M D
 | .int i,.int j=>if qez i j then M.pure (.int (i * j))else M.fail
 | .lst xs,.int k=>if decide (k < 2 ^ 63) && decide (-(2 ^ 63)≤k) && sizeOk (xs.length * k.toNat)then alloc new (.lst (List.replicate k.toNat xs).flatten)else M.fail
 | _,_=>M.fail
noncomputable def qzf:D→D→M D
 | .int i,.int j=>if decide (qe5 i j)then M.pure (.int (i / j))else M.fail
 | _,_=>M.fail
noncomputable def qzg:D→D→M D
 | .int i,.int j=>if decide (0 < j)then M.pure (.int (i % j))else M.fail
 | _,_=>M.fail
noncomputable def qzh:D→D→M D
 | .int i,.int j=>if decide (qpc i j)then M.pure (.int (i ^ j.toNat))else M.fail
 | _,_=>M.fail
noncomputable def seen (f:D→D→M D) (x y:D):M D:=fun S=>f (look x S) (look y S) S
noncomputable def qf8 (new:Bool) (op:Operator):D→D→M D:=match op with
 | .Add=>seen (qxj new)
 | .Sub=>seen qxk
 | .Mult=>seen (qxl new)
 | .FloorDiv=>seen qzf
 | .Mod=>seen qzg
 | .Pow=>seen qzh
 | _=>fun _ _=>M.fail
section
variable {X:Cx}
theorem Wp.iteF {α:Type} {E:XW} {w:Wd} {H:Hp} {c:Bool} {m:M α} {S:Sto} {P:α→Sto→Wd→Hp→Prop} (h:Wp E w H ((if c=true then m else M.fail) S) P):c=true∧Wp E w H (m S) P:=by
 cases c with
 | true=>exact⟨rfl,h⟩
 | false=>exact False.elim h
theorem qb.rep {w:Wd} {H:Hp} {ds:List D} {vs:List V} (h:qb w H ds vs):∀ k:Nat,qb w H (List.replicate k ds).flatten (List.replicate k vs).flatten
 | 0=>rfl
 | k+1=>by rw[List.replicate_succ,List.replicate_succ,List.flatten_cons,List.flatten_cons];exact h.append (qb.rep h k)
theorem q6q {new:Bool}:OpT X (binaryOp .Add) (seen (qxj new)):=by
 refine⟨_,q5t.or (qud.or (q6b.or q18)),fun E w H S dx dy x y Q h rx ry q=> ?_⟩
 unfold seen at q
 cases e1:look dx S <;> rw[e1]at q <;> first | exact False.elim q | (cases e2:look dy S <;> rw[e2]at q <;> first | exact False.elim q | skip)
 case int.int i j =>
   exact .inl ⟨i,j,qr rx e1,qr ry e2,now h (d:=.int _) rfl q⟩
 case str.str i j =>
   obtain ⟨hz,q⟩:=Wp.iteF q
   exact .inr (.inl ⟨i,j,qbv rx e1,qbv ry e2,of_decide_eq_true hz,now h (d:=.str _) rfl q⟩)
 case lst.lst xs ys =>
   obtain ⟨hz,q⟩:=Wp.iteF q
   obtain ⟨a,vs,z1,z2,z3⟩:=qj h rx e1
   obtain ⟨b,us,y1,y2,y3⟩:=qj h ry e2
   refine .inr (.inr (.inl ⟨a,b,vs,us,z1,y1,z2,y2,?_,fun p hp=>qaw h (z3.append y3) q hp⟩))
   rw[← z3.length,← y3.length];exact of_decide_eq_true hz
 case tup.tup xs ys =>
   obtain ⟨hz,q⟩:=Wp.iteF q
   rw[Bool.and_eq_true]at hz
   obtain ⟨a,vs,z1,z2,z3⟩:=qaf h rx e1
   obtain ⟨b,us,y1,y2,y3⟩:=qaf h ry e2
   refine .inr (.inr (.inr ⟨a,b,vs,us,z1,y1,SqT.of z2,SqT.of y2,?_,?_,fun e=> ?_,fun _ p hp=>qkm h (z3.append y3) q hp⟩))
   · have:=z3.length
     intro e
     rw[e]at this
     have:xs=[]:=List.length_eq_zero_iff.mp this
     rw[this]at hz
     simp at hz
   · rw[← z3.length,← y3.length];exact of_decide_eq_true hz.2
   · have hl:=y3.length
     rw[e]at hl
     have hy:ys=[]:=List.length_eq_zero_iff.mp hl
     rw[hy,List.append_nil]at q
     have:look dx S=dx:=by cases dx <;> first | rfl | (unfold look at e1;dsimp only at e1;split at e1 <;> cases e1)
     rw[this]at e1
     rw[← z1]
     exact now h (by rw[← e1];exact rx) q
theorem q6r:OpT X (binaryOp .Sub) (seen qxk):=by
 refine⟨_,q5u,fun E w H S dx dy x y Q h rx ry q=> ?_⟩
 unfold seen at q
 cases e1:look dx S <;> rw[e1]at q <;> first | exact False.elim q | (cases e2:look dy S <;> rw[e2]at q <;> first | exact False.elim q | skip)
 exact⟨_,_,qr rx e1,qr ry e2,now h (d:=.int _) rfl q⟩
theorem q6s {new:Bool}:OpT X (binaryOp .Mult) (seen (qxl new)):=by
 refine⟨_,q5v.or (q2n.or q6c),fun E w H S dx dy x y Q h rx ry q=> ?_⟩
 unfold seen at q
 cases e1:look dx S <;> rw[e1]at q <;> first | exact False.elim q | (cases e2:look dy S <;> rw[e2]at q <;> first | exact False.elim q | skip)
 case int.int i j =>
   obtain ⟨hz,q⟩:=Wp.iteF q
   unfold qez at hz
   rw[Bool.or_eq_true]at hz
   rcases hz with hz | hz
   · exact .inl ⟨i,j,qr rx e1,qr ry e2,of_decide_eq_true hz,now h (d:=.int _) rfl q⟩
   · exact .inr (.inl ⟨i,j,qr rx e1,qr ry e2,of_decide_eq_true hz,now h (d:=.int _) rfl q⟩)
 case lst.int xs k =>
   obtain ⟨hz,q⟩:=Wp.iteF q
   rw[Bool.and_eq_true,Bool.and_eq_true]at hz
   obtain ⟨a,vs,z1,z2,z3⟩:=qj h rx e1
   refine .inr (.inr ⟨a,k,vs,z1,qr ry e2,z2,of_decide_eq_true hz.1.2,of_decide_eq_true hz.1.1,?_,fun p hp=>qaw h (z3.rep _) q hp⟩)
   rw[← z3.length];exact of_decide_eq_true hz.2
theorem q6t:OpT X (binaryOp .FloorDiv) (seen qzf):=by
 refine⟨_,qy3,fun E w H S dx dy x y Q h rx ry q=> ?_⟩
 unfold seen at q
 cases e1:look dx S <;> rw[e1]at q <;> first | exact False.elim q | (cases e2:look dy S <;> rw[e2]at q <;> first | exact False.elim q | skip)
 obtain ⟨hz,q⟩:=Wp.iteF q
 exact⟨_,_,qr rx e1,qr ry e2,of_decide_eq_true hz,now h (d:=.int _) rfl q⟩
theorem q6u:OpT X (binaryOp .Mod) (seen qzg):=by
 refine⟨_,q5w,fun E w H S dx dy x y Q h rx ry q=> ?_⟩
 unfold seen at q
 cases e1:look dx S <;> rw[e1]at q <;> first | exact False.elim q | (cases e2:look dy S <;> rw[e2]at q <;> first | exact False.elim q | skip)
 obtain ⟨hz,q⟩:=Wp.iteF q
 exact⟨_,_,qr rx e1,qr ry e2,of_decide_eq_true hz,now h (d:=.int _) rfl q⟩
theorem q6v:OpT X (binaryOp .Pow) (seen qzh):=by
 refine⟨_,q5x,fun E w H S dx dy x y Q h rx ry q=> ?_⟩
 unfold seen at q
 cases e1:look dx S <;> rw[e1]at q <;> first | exact False.elim q | (cases e2:look dy S <;> rw[e2]at q <;> first | exact False.elim q | skip)
 obtain ⟨hz,q⟩:=Wp.iteF q
 exact⟨_,_,qr rx e1,qr ry e2,of_decide_eq_true hz,now h (d:=.int _) rfl q⟩
theorem qla {F:Value→Value→Sem Value}:OpT X F (fun _ _=>M.fail):=⟨fun _ _ _ _=>False,fun _ _ _ _ _ _ _ _ _ _ _ _ h=>False.elim h,fun _ _ _ _ _ _ _ _ _ _ _ _ q=>q⟩
theorem q6w {new:Bool}:∀ op:Operator,OpT X (binaryOp op) (qf8 new op)
 | .Add=>q6q
 | .Sub=>q6r
 | .Mult=>q6s
 | .FloorDiv=>q6t
 | .Mod=>q6u
 | .Pow=>q6v
 | .MatMult=>qla
 | .Div=>qla
 | .LShift=>qla
 | .RShift=>qla
 | .BitOr=>qla
 | .BitXor=>qla
 | .BitAnd=>qla
end
noncomputable def qrv (p:Int→Int→Bool):D→D→M D
 | .int i,.int j=>M.pure (.bl (p i j))
 | _,_=>M.fail
noncomputable def eqM (neg:Bool) (x y:D):M D:=match eqD x y with
 | some b=>if decide (x.dep≤60) && (match x.flat,y.flat with | some a,some c=>qpd a c | _,_=>true)then M.pure (.bl (neg != b))else M.fail
 | none=>M.fail
noncomputable def D.isNon:D→Bool
 | .non=>true
 | _=>false
noncomputable def isM (neg:Bool) (x y:D):M D:=match y with
 | .non=>M.pure (.bl (neg != x.isNon))
 | _=>M.fail
noncomputable def qc8 (d:D):List D→Option Bool
 | []=>some false
 | e::es=>match eqD e d,qc8 d es with
   | some a,some b=>if decide (e.dep≤60)then some (a || b)else none
   | _,_=>none
noncomputable def keyOf:D→Option Key
 | .int i=>some (.inl i)
 | .str x=>some (.inr x)
 | _=>none
noncomputable def qfb (ks:List Key) (k:Key):Bool:=ks.any fun j=>decide (j=k)
noncomputable def inM (neg:Bool) (x y:D):M D:=match y with
 | .lst es=>match qc8 x es with
   | some b=>M.pure (.bl (neg != b))
   | none=>M.fail
 | .tup es=>match qc8 x es with
   | some b=>M.pure (.bl (neg != b))
   | none=>M.fail
 | .dct ks _=>match keyOf x with
   | some k=>M.pure (.bl (neg != qfb ks k))
   | none=>M.fail
 | .str j=>match x with
   | .str i=>M.pure (.bl (neg != !(Builtin.Str.occurrences j i 0 j.length 1).isEmpty))
   | _=>M.fail
 | _=>M.fail
noncomputable def qa6 (op:CmpOp):D→D→M D:=match op with
 | .Lt=>seen (qrv fun i j=>decide (i < j))
 | .LtE=>seen (qrv fun i j=>decide (i≤j))
 | .Gt=>seen (qrv fun i j=>decide (j < i))
 | .GtE=>seen (qrv fun i j=>decide (j≤i))
 | .Eq=>seen (eqM false)
 | .NotEq=>seen (eqM true)
 | .Is=>seen (isM false)
 | .IsNot=>seen (isM true)
 | .In=>fun x y S=>inM false x (look y S) S
 | .NotIn=>fun x y S=>inM true x (look y S) S
theorem qkn {d:D}:∀ {es:List D} {b:Bool} {i:Nat} {e:D},qc8 d es=some b→es[i]? =some e→∃ c,eqD e d=some c∧e.dep≤60
 | [],_,_,_,_,h=>by simp at h
 | a ::es,b,i,e,h,h1=>by
   rw[qc8]at h
   cases e1:eqD a d with
   | none=>rw[e1]at h;simp at h
   | some p =>
     cases e2:qc8 d es with
     | none=>rw[e1,e2]at h;simp at h
     | some q =>
       rw[e1,e2]at h
       dsimp only at h
       by_cases hd:a.dep≤60
       · cases i with
         | zero =>
           have:a=e:=by simpa using h1
           subst this
           exact⟨p,e1,hd⟩
         | succ i=>exact qkn e2 (by simpa using h1)
       · simp [hd]at h
theorem qrw {d:D}:∀ {es:List D} {b:Bool},qc8 d es=some b→es.any (fun e=>(eqD e d).getD false)=b
 | [],b,h=>by simp [qc8]at h;simp [h]
 | a ::es,b,h=>by
   rw[qc8]at h
   cases e1:eqD a d with
   | none=>rw[e1]at h;simp at h
   | some p =>
     cases e2:qc8 d es with
     | none=>rw[e1,e2]at h;simp at h
     | some q =>
       rw[e1,e2]at h
       dsimp only at h
       by_cases hd:a.dep≤60
       · simp only [hd,decide_true,if_true]at h
         have h:(p || q)=b:=by simpa using h
         rw[List.any_cons,e1,qrw e2,← h]
         rfl
       · simp [hd]at h
noncomputable def inE (its:List Value) (ds:List D) (d:D) (u:Value):Bool:= @decide (∃ (i:Nat) (e:D),its[i]? =some u∧ds[i]? =some e∧eqD e d=some true) (Classical.propDecidable _)
section
variable {X:Cx} {pins:List (Addr × Obj)} {σ:St} {H:Hp} {s:Shared}
mutual
theorem Rep.cong {w:Wd}:∀ {d e z:D} {v:V} {b c:Bool},Rep w H d v→Rep w H e v→eqD d z=some b→eqD e z=some c→b=c
 | .non,e,z,v,b,c,h,k,q1,q2=>by
   simp only [Rep]at h;subst h
   cases e with
   | non=>rw[q1]at q2;simpa using q2
   | _=>first | (simp [Rep]at k;done) | (simp [eqD]at q2;done)
 | .bl x,e,z,v,b,c,h,k,q1,q2=>by
   simp only [Rep]at h;subst h
   cases e with
   | bl y=>simp only [Rep]at k;cases k;rw[q1]at q2;simpa using q2
   | _=>first | (simp [Rep]at k;done) | (simp [eqD]at q2;done)
 | .int x,e,z,v,b,c,h,k,q1,q2=>by
   simp only [Rep]at h;subst h
   cases e with
   | int y=>simp only [Rep]at k;cases k;rw[q1]at q2;simpa using q2
   | _=>first | (simp [Rep]at k;done) | (simp [eqD]at q2;done)
 | .str x,e,z,v,b,c,h,k,q1,q2=>by
   simp only [Rep]at h;subst h
   cases e with
   | str y=>simp only [Rep]at k;cases k;rw[q1]at q2;simpa using q2
   | _=>first | (simp [Rep]at k;done) | (simp [eqD]at q2;done)
 | .lst xs,e,z,v,b,c,⟨a,vs,e1,_,h1,r⟩,k,q1,q2=>by
   subst e1
   cases e with
   | lst ys =>
     obtain ⟨a',vs',e2,_,h2,r'⟩:=k
     cases e2
     rw[h1]at h2;cases h2
     cases z with
     | lst zs =>
       rw[eqD]at q1 q2
       have l:xs.length=ys.length:=by rw[r.length,r'.length]
       by_cases hz:xs.length=zs.length
       · simp only [hz,← l,if_true]at q1 q2
         exact qb.cong r r' q1 q2
       · simp only [hz,← l,if_false]at q1 q2
         rw[q1]at q2;simpa using q2
     | _=>simp [eqD]at q1
   | tup ys=>obtain ⟨a',vs',e2,_,h2,r'⟩:=k;cases e2;rw[h1]at h2;cases h2
   | non=>simp [Rep]at k
   | bl _=>simp [Rep]at k
   | int _=>simp [Rep]at k
   | str _=>simp [Rep]at k
   | _=>simp [eqD]at q2
 | .tup xs,e,z,v,b,c,⟨a,vs,e1,_,h1,r⟩,k,q1,q2=>by
   subst e1
   cases e with
   | tup ys =>
     obtain ⟨a',vs',e2,_,h2,r'⟩:=k
     cases e2
     rw[h1]at h2;cases h2
     cases z with
     | tup zs =>
       rw[eqD]at q1 q2
       have l:xs.length=ys.length:=by rw[r.length,r'.length]
       by_cases hz:xs.length=zs.length
       · simp only [hz,← l,if_true]at q1 q2
         exact qb.cong r r' q1 q2
       · simp only [hz,if_false]at q1;cases q1
     | _=>simp [eqD]at q1
   | lst ys=>obtain ⟨a',vs',e2,_,h2,r'⟩:=k;cases e2;rw[h1]at h2;cases h2
   | non=>simp [Rep]at k
   | bl _=>simp [Rep]at k
   | int _=>simp [Rep]at k
   | str _=>simp [Rep]at k
   | _=>simp [eqD]at q2
 | .ty _,_,_,_,_,_,_,_,h,_=>by simp [eqD]at h
 | .at_ _,_,_,_,_,_,_,_,h,_=>by simp [eqD]at h
 | .ref _,_,_,_,_,_,_,_,h,_=>by simp [eqD]at h
 | .dct _ _,_,_,_,_,_,_,_,h,_=>by simp [eqD]at h
 | .obj _ _ _,_,_,_,_,_,_,_,h,_=>by simp [eqD]at h
theorem qb.cong {w:Wd}:∀ {ds es zs:List D} {vs:List V} {b c:Bool},qb w H ds vs→qb w H es vs→qa9 ds zs=some b→qa9 es zs=some c→b=c
 | [],es,zs,vs,b,c,h,k,q1,q2=>by
   cases (show vs=[] from h)
   cases es with
   | nil=>rw[q1]at q2;simpa using q2
   | cons e es=>obtain ⟨_,_,z,_⟩:=k;cases z
 | d::ds,[],zs,vs,b,c,⟨v,r,e1,hd,t⟩,k,q1,q2=>by
   cases (show vs=[] from k)
   cases e1
 | d::ds,e::es,[],vs,b,c,_,_,q1,q2=>by simp [qa9]at q1
 | d ::ds,e::es,z::zs,vs,b,c,⟨v,r,e1,hd,t⟩,⟨v',r',e2,hd',t'⟩,q1,q2=>by
   rw[e1]at e2;cases e2
   rw[qa9]at q1 q2
   cases a1:eqD d z with
   | none=>rw[a1]at q1;simp at q1
   | some p =>
     cases a2:qa9 ds zs with
     | none=>rw[a1,a2]at q1;simp at q1
     | some p' =>
       cases b1:eqD e z with
       | none=>rw[b1]at q2;simp at q2
       | some q =>
         cases b2:qa9 es zs with
         | none=>rw[b1,b2]at q2;simp at q2
         | some q' =>
           rw[a1,a2]at q1
           rw[b1,b2]at q2
           rw[Rep.cong hd hd' a1 b1,qb.cong t t' a2 b2]at q1
           rw[q1]at q2
           simpa using q2
end
theorem quk {w:Wd} {its:List Value} {vs:List V} {ds:List D} {d:D} (hvs:qb w H ds vs) (r:Vals vs its) {i:Nat} {u:Value} {e:D} {c:Bool} (hk:∀ (j:Nat) (f:D),ds[j]? =some f→∃ c,eqD f d=some c) (hu:its[i]? =some u) (he:ds[i]? =some e) (hc:eqD e d=some c):inE its ds d u=c:=by
 unfold inE
 cases c with
 | true=>exact @decide_eq_true _ (Classical.propDecidable _) ⟨i,e,hu,he,hc⟩
 | false =>
   refine @decide_eq_false _ (Classical.propDecidable _) ?_
   rintro ⟨j,e',hu',he',h'⟩
   obtain ⟨v1,f1,q1⟩:=hvs.get he
   obtain ⟨v2,f2,q2⟩:=hvs.get he'
   obtain ⟨u1,g1,r1⟩:=r.get f1
   obtain ⟨u2,g2,r2⟩:=r.get f2
   rw[hu]at g1;cases g1
   rw[hu']at g2;cases g2
   cases r1.inj r2
   have:=Rep.cong q1 q2 hc h'
   cases this
theorem qko {w:Wd} {its:List Value} {vs:List V} {ds:List D} {d:D} {b:Bool} (hvs:qb w H ds vs) (r:Vals vs its) (hb:qc8 d ds=some b):its.any (inE its ds d)=b:=by
 have l1:=hvs.length
 have l2:=r.length
 have hk:∀ (j:Nat) (f:D),ds[j]? =some f→∃ c,eqD f d=some c:=fun j f e=>let ⟨c,h,_⟩:=qkn hb e;⟨c,h⟩
 rw[← qrw hb,Bool.eq_iff_iff,List.any_eq_true,List.any_eq_true]
 constructor
 · rintro ⟨u,hu,h⟩
   obtain ⟨i,hi,rfl⟩:=List.getElem_of_mem hu
   have hi2:i < ds.length:=by omega
   obtain ⟨c,hc⟩:=hk i ds[i] (List.getElem?_eq_getElem hi2)
   rw[quk hvs r hk (List.getElem?_eq_getElem hi) (List.getElem?_eq_getElem hi2) hc]at h
   exact⟨ds[i],List.getElem_mem hi2,by rw[hc];exact h⟩
 · rintro ⟨e,he,h⟩
   obtain ⟨i,hi,rfl⟩:=List.getElem_of_mem he
   have hi2:i < its.length:=by omega
   obtain ⟨c,hc⟩:=hk i ds[i] (List.getElem?_eq_getElem hi)
   rw[hc]at h
   exact⟨its[i],List.getElem_mem hi2,by rw[quk hvs r hk (List.getElem?_eq_getElem hi2) (List.getElem?_eq_getElem hi) hc];exact h⟩
theorem qhi {w:Wd} {A:Around} (I:Inv X pins σ H s) {its:List Value} {vs:List V} {ds:List D} {d:D} {x:V} {v:Value} {b:Bool} (hu:A.units+60 < cLine) (hvs:qb w H ds vs) (r:Vals vs its) (hx:Rep w H d x) (rx:RelV x v) (hb:qc8 d ds=some b) :
   ∀ y,y ∈ its→SeqAt.EqAt A s y v (inE its ds d y):=fun y hy=>by
 have l1:=hvs.length
 have l2:=r.length
 obtain ⟨i,hi,rfl⟩:=List.getElem_of_mem hy
 have hi2:i < ds.length:=by omega
 obtain ⟨c,hc,hdp⟩:=qkn hb (List.getElem?_eq_getElem hi2)
 rw[quk hvs r (fun j f e=>let ⟨c,h,_⟩:=qkn hb e;⟨c,h⟩) (List.getElem?_eq_getElem hi) (List.getElem?_eq_getElem hi2) hc]
 obtain ⟨v1,f1,q1⟩:=hvs.get (List.getElem?_eq_getElem hi2)
 obtain ⟨u1,g1,r1⟩:=r.get f1
 obtain ⟨_,e1⟩:=List.getElem?_eq_some_iff.mp g1
 rw[e1]
 exact qk9 I 60 A _ _ _ _ _ _ _ hdp hu hc q1 hx r1 rx
theorem Rep.isNon {w:Wd} {d:D} {v:V} (h:Rep w H d v):decide (v=.non)=d.isNon:=by
 cases d <;> simp only [Rep]at h <;> first
   | (subst h;rfl)
   | (obtain ⟨_,_,h⟩:=h;subst h;rfl)
   | (obtain ⟨_,_,h,_⟩:=h;subst h;rfl)
   | (obtain ⟨_,_,_,h,_⟩:=h;subst h;rfl)
theorem qlb {d:D} {S:Sto}:(look d S).isNon=d.isNon:=by
 cases d <;> first | rfl | skip
 case ref l =>
   unfold look
   dsimp only
   cases S[l]? with
   | none=>rfl
   | some c=>cases c <;> rfl
theorem qkp {op:CmpOp} {p:Int→Int→Bool} (ho:OpR X (compareOp op) (rI0 fun i j=>.bl (p i j))):OpT X (compareOp op) (seen (qrv p)):=by
 refine⟨_,ho,fun E w H S dx dy x y Q h rx ry q=> ?_⟩
 unfold seen at q
 cases e1:look dx S <;> cases e2:look dy S <;> rw[e1,e2]at q <;> first | exact False.elim q | skip
 exact⟨_,_,qr rx e1,qr ry e2,now h (d:=.bl _) rfl q⟩
theorem qaai:OpT X (compareOp .Is) (seen (isM false)):=by
 refine⟨_,q5z,fun E w H S dx dy x y Q h rx ry q=> ?_⟩
 unfold seen at q
 cases e2:look dy S <;> rw[e2]at q <;> first | exact False.elim q | skip
 refine⟨qhh ry e2,?_⟩
 have:=now h (d:=.bl _) rfl q
 rw[qlb]at this
 rw[rx.isNon]
 simpa using this
theorem qzi:OpT X (compareOp .IsNot) (seen (isM true)):=by
 refine⟨_,q12,fun E w H S dx dy x y Q h rx ry q=> ?_⟩
 unfold seen at q
 cases e2:look dy S <;> rw[e2]at q <;> first | exact False.elim q | skip
 refine⟨qhh ry e2,?_⟩
 have:=now h (d:=.bl _) rfl q
 rw[qlb]at this
 rw[rx.isNon]
 simpa using this
theorem qvv {x y:V} (h:qpd x y=true) (f:qod x=true) (g:qod y=true):decide (x=y)=eqV x y:=by
 cases x <;> cases y <;> first | (cases h;done) | (cases f;done) | (cases g;done) | rfl | exact qpe | (show decide _=(_==_);simp [Bool.beq_eq_decide_eq])
theorem qrx {d e:D} {z:V} (hz:d.flat=some z):eqD d e=e.flat.map (eqV z):=by
 cases d <;> simp only [D.flat]at hz <;> first | (cases hz;done) | (cases hz;rw[eqD])
theorem qom {d e:D} {b:Bool} (hz:d.flat=none) (hb:eqD d e=some b):(∃ xs ys,d=.lst xs∧e=.lst ys)∨(∃ xs ys,d=.tup xs∧e=.tup ys):=by
 cases d <;> simp only [D.flat]at hz <;> first | (cases hz;done) | skip
 case lst xs=>cases e <;> first | exact .inl ⟨_,_,rfl,rfl⟩ | (simp [eqD]at hb;done)
 case tup xs=>cases e <;> first | exact .inr ⟨_,_,rfl,rfl⟩ | (simp [eqD]at hb;done)
 all_goals simp [eqD]at hb
noncomputable def q6x (neg:Bool):R2:=fun x y H Q=>∃ (w:Wd) (S:Sto) (dx dy:D) (b:Bool),qe w H S∧Rep w H dx x∧Rep w H dy y∧eqD (look dx S) (look dy S)=some b∧(look dx S).dep≤60∧(match (look dx S).flat,(look dy S).flat with | some a,some c=>qpd a c | _,_=>true)=true∧Q (.bl (neg != b)) H
theorem q6y (hu:X.A.units+64 < cLine):OpR X (compareOp .Eq) (q6x false):=by
 intro pins s σ H x y v u Q I rx ry h
 obtain ⟨w,S,dx,dy,b,h,r1,r2,hb,hd,hs,q⟩:=h
 cases hz:(look dx S).flat with
 | some z =>
   rw[qrx hz]at hb
   cases he:(look dy S).flat with
   | none=>rw[he]at hb;simp at hb
   | some z' =>
     rw[he]at hb
     rw[hz,he]at hs
     obtain ⟨rfl,f1⟩:=qbr r1 hz
     obtain ⟨rfl,f2⟩:=qbr r2 he
     have hb:eqV x y=b:=by simpa using hb
     refine q9r pins s σ H x y v u Q I rx ry ⟨hs,?_⟩
     rw[qvv hs f1 f2,hb]
     simpa using q
 | none =>
   rcases qom hz hb with ⟨xs,ys,z1,z2⟩ | ⟨xs,ys,z1,z2⟩
   · obtain ⟨a,vs,rfl,ha,hvs⟩:=qj h r1 z1
     obtain ⟨c,ws,rfl,hc,hws⟩:=qj h r2 z2
     rw[z1,z2,eqD]at hb
     cases (show v=Value.ref a from rx);cases (show u=Value.ref c from ry)
     obtain ⟨ia,ra,pa,_⟩:=I.list (SqL.of ha)
     obtain ⟨ib,rb,pb,_⟩:=I.list (SqL.of hc)
     have la:=ra.length;have lb:=rb.length
     have l1:=hvs.length;have l2:=hws.length
     by_cases hxy:xs.length=ys.length
     case neg =>
       simp only [hxy,if_false]at hb
       cases hb
       exact SeqAt.eq_list_lengthsAt pa.isList pb.isList (by simp;omega) (by omega) ⟨.bl _,H,I,rfl,by simpa using q⟩
     simp only [hxy,if_true]at hb
     rw[z1]at hd
     simp only [D.dep]at hd
     refine SeqAt.eq_listAt (e:=qey xs ys) pa.isList pb.isList (by simp;omega) (by omega) (fun j h1 h2=> ?_) ?_
     · simp only [List.size_toArray]at h1 h2
       obtain ⟨x1,y1,v1,w1,e1,q0,q1,q2,s1,s2⟩:=qfz hvs hws ra rb hb h1 h2
       have hdj:=qgk e1
       exact qk9 I 60 X.A.in1 _ _ _ _ _ _ _ (by omega) (by show X.A.units+1+60 < cLine;omega) q0 q1 q2 s1 s2
     · rw[show ia.toArray.size=xs.length by simp;omega,qc6 hb]
       exact⟨.bl _,H,I,rfl,by simpa using q⟩
   · obtain ⟨a,vs,rfl,ha,hvs⟩:=qaf h r1 z1
     obtain ⟨c,ws,rfl,hc,hws⟩:=qaf h r2 z2
     rw[z1,z2,eqD]at hb
     cases (show v=Value.ref a from rx);cases (show u=Value.ref c from ry)
     obtain ⟨ia,ra,pa,_⟩:=I.tuple (SqT.of ha)
     obtain ⟨ib,rb,pb,_⟩:=I.tuple (SqT.of hc)
     have la:=ra.length;have lb:=rb.length
     have l1:=hvs.length;have l2:=hws.length
     by_cases hxy:xs.length=ys.length
     case neg=>simp [hxy]at hb
     simp only [hxy,if_true]at hb
     rw[z1]at hd
     simp only [D.dep]at hd
     refine SeqAt.eq_tupleAt (e:=qey xs ys) (show s.heap.IsTuple a ia.toArray from pa) (show s.heap.IsTuple c ib.toArray from pb) (by omega) (fun j h1 h2=> ?_) ?_
     · simp only [List.size_toArray]at h1 h2
       obtain ⟨x1,y1,v1,w1,e1,q0,q1,q2,s1,s2⟩:=qfz hvs hws ra rb hb h1 h2
       have hdj:=qgk e1
       exact qk9 I 60 X.A.in1 _ _ _ _ _ _ _ (by omega) (by show X.A.units+1+60 < cLine;omega) q0 q1 q2 s1 s2
     · rw[show ib.toArray.size=ia.toArray.size by simp;omega,Nat.min_self,show ia.toArray.size=xs.length by simp;omega,qc6 hb]
       simp only [beq_self_eq_true,Bool.and_true]
       exact⟨.bl _,H,I,rfl,by simpa using q⟩
theorem q6z (hu:X.A.units+64 < cLine):OpR X (compareOp .NotEq) (q6x true):=by
 intro pins s σ H x y v u Q I rx ry h
 obtain ⟨w,S,dx,dy,b,h,r1,r2,hb,hd,hs,q⟩:=h
 cases hz:(look dx S).flat with
 | some z =>
   rw[qrx hz]at hb
   cases he:(look dy S).flat with
   | none=>rw[he]at hb;simp at hb
   | some z' =>
     rw[he]at hb
     rw[hz,he]at hs
     obtain ⟨rfl,f1⟩:=qbr r1 hz
     obtain ⟨rfl,f2⟩:=qbr r2 he
     have hb:eqV x y=b:=by simpa using hb
     refine q9s pins s σ H x y v u Q I rx ry ⟨hs,?_⟩
     rw[qvv hs f1 f2,hb]
     simpa using q
 | none =>
   rcases qom hz hb with ⟨xs,ys,z1,z2⟩ | ⟨xs,ys,z1,z2⟩
   · obtain ⟨a,vs,rfl,ha,hvs⟩:=qj h r1 z1
     obtain ⟨c,ws,rfl,hc,hws⟩:=qj h r2 z2
     rw[z1,z2,eqD]at hb
     cases (show v=Value.ref a from rx);cases (show u=Value.ref c from ry)
     obtain ⟨ia,ra,pa,_⟩:=I.list (SqL.of ha)
     obtain ⟨ib,rb,pb,_⟩:=I.list (SqL.of hc)
     have la:=ra.length;have lb:=rb.length
     have l1:=hvs.length;have l2:=hws.length
     by_cases hxy:xs.length=ys.length
     case neg =>
       simp only [hxy,if_false]at hb
       cases hb
       exact of_rcne (SeqAt.RcNeAt.lists_lengths pa.isList pb.isList (by simp;omega) (by omega)) ⟨.bl _,H,I,rfl,by simpa using q⟩
     simp only [hxy,if_true]at hb
     rw[z1]at hd
     simp only [D.dep]at hd
     refine of_rcne (SeqAt.RcNeAt.lists (e:=qey xs ys) pa.isList pb.isList (by simp;omega) (by omega) (fun j h1 h2=> ?_)) ?_
     · simp only [List.size_toArray]at h1 h2
       obtain ⟨x1,y1,v1,w1,e1,q0,q1,q2,s1,s2⟩:=qfz hvs hws ra rb hb h1 h2
       have hdj:=qgk e1
       exact qk9 I 60 X.A.in1 _ _ _ _ _ _ _ (by omega) (by show X.A.units+1+60 < cLine;omega) q0 q1 q2 s1 s2
     · rw[show ia.toArray.size=xs.length by simp;omega,qc6 hb]
       exact⟨.bl _,H,I,rfl,by simpa using q⟩
   · obtain ⟨a,vs,rfl,ha,hvs⟩:=qaf h r1 z1
     obtain ⟨c,ws,rfl,hc,hws⟩:=qaf h r2 z2
     rw[z1,z2,eqD]at hb
     cases (show v=Value.ref a from rx);cases (show u=Value.ref c from ry)
     obtain ⟨ia,ra,pa,_⟩:=I.tuple (SqT.of ha)
     obtain ⟨ib,rb,pb,_⟩:=I.tuple (SqT.of hc)
     have la:=ra.length;have lb:=rb.length
     have l1:=hvs.length;have l2:=hws.length
     by_cases hxy:xs.length=ys.length
     case neg=>simp [hxy]at hb
     simp only [hxy,if_true]at hb
     rw[z1]at hd
     simp only [D.dep]at hd
     refine of_rcne (SeqAt.RcNeAt.tuples (e:=qey xs ys) (show s.heap.IsTuple a ia.toArray from pa) (show s.heap.IsTuple c ib.toArray from pb) (by omega) (fun j h1 h2=> ?_)) ?_
     · simp only [List.size_toArray]at h1 h2
       obtain ⟨x1,y1,v1,w1,e1,q0,q1,q2,s1,s2⟩:=qfz hvs hws ra rb hb h1 h2
       have hdj:=qgk e1
       exact qk9 I 60 X.A.in1 _ _ _ _ _ _ _ (by omega) (by show X.A.units+1+60 < cLine;omega) q0 q1 q2 s1 s2
     · rw[show ib.toArray.size=ia.toArray.size by simp;omega,Nat.min_self,show ia.toArray.size=xs.length by simp;omega,qc6 hb]
       simp only [beq_self_eq_true,Bool.and_true]
       exact⟨.bl _,H,I,rfl,by simpa using q⟩
theorem q4l {neg:Bool} {op:CmpOp} (ho:OpR X (compareOp op) (q6x neg)):OpT X (compareOp op) (seen (eqM neg)):=by
 refine⟨_,ho,fun E w H S dx dy x y Q h rx ry q=> ?_⟩
 unfold seen eqM at q
 cases e:eqD (look dx S) (look dy S)with
 | none=>rw[e]at q;exact False.elim q
 | some b =>
   rw[e]at q
   obtain ⟨hz,q⟩:=Wp.iteF q
   rw[Bool.and_eq_true]at hz
   exact⟨w,S,dx,dy,b,h,rx,ry,e,of_decide_eq_true hz.1,hz.2,now h (d:=.bl _) rfl q⟩
noncomputable def q60 (neg:Bool):R2:=fun x y H Q=>∃ (w:Wd) (p:Addr) (vs:List V) (ds:List D) (d:D) (b:Bool),y=.ref p∧(H p=some (.lst vs)∨H p=some (.tup vs))∧qb w H ds vs∧Rep w H d x∧qc8 d ds=some b∧Q (.bl (neg != b)) H
theorem q61 (hu:X.A.units+64 < cLine):OpR X (compareOp .In) (q60 false):=by
 intro pins s σ H x y v u Q I rx ry h
 obtain ⟨w,p,vs,ds,d,b,rfl,hp,hvs,hx,hk,q⟩:=h
 cases ry
 rcases hp with hp | hp
 · obtain ⟨its,r,pl,hz⟩:=I.list (SqL.of hp)
   refine SeqAt.in_listAt (inE its ds d) pl.isList (fun w hw=>qhi I (A:=X.A.in1) (by show X.A.units+1+60 < cLine;omega) hvs r hx rx hk w (by simpa using hw)) ⟨.bl _,H,I,rfl,?_⟩
   rw[show its.toArray.any (inE its ds d)=its.any (inE its ds d)by simp,qko hvs r hk]
   simpa using q
 · obtain ⟨its,r,pl,hz⟩:=I.tuple (SqT.of hp)
   refine SeqAt.in_tupleAt (inE its ds d) (show s.heap.IsTuple p its.toArray from pl) (fun w hw=>qhi I (A:=X.A.in1) (by show X.A.units+1+60 < cLine;omega) hvs r hx rx hk w (by simpa using hw)) ⟨.bl _,H,I,rfl,?_⟩
   rw[show its.toArray.any (inE its ds d)=its.any (inE its ds d)by simp,qko hvs r hk]
   simpa using q
theorem qxm (hu:X.A.units+64 < cLine):OpR X (compareOp .NotIn) (q60 true):=by
 intro pins s σ H x y v u Q I rx ry h
 obtain ⟨w,p,vs,ds,d,b,rfl,hp,hvs,hx,hk,q⟩:=h
 cases ry
 rcases hp with hp | hp
 · obtain ⟨its,r,pl,hz⟩:=I.list (SqL.of hp)
   refine SeqAt.notIn_listAt (inE its ds d) pl.isList (fun w hw=>qhi I (A:=X.A.in1) (by show X.A.units+1+60 < cLine;omega) hvs r hx rx hk w (by simpa using hw)) ⟨.bl _,H,I,rfl,?_⟩
   rw[show its.toArray.any (inE its ds d)=its.any (inE its ds d)by simp,qko hvs r hk]
   simpa using q
 · obtain ⟨its,r,pl,hz⟩:=I.tuple (SqT.of hp)
   refine SeqAt.notIn_tupleAt (inE its ds d) (show s.heap.IsTuple p its.toArray from pl) (fun w hw=>qhi I (A:=X.A.in1) (by show X.A.units+1+60 < cLine;omega) hvs r hx rx hk w (by simpa using hw)) ⟨.bl _,H,I,rfl,?_⟩
   rw[show its.toArray.any (inE its ds d)=its.any (inE its ds d)by simp,qko hvs r hk]
   simpa using q
theorem qzj (hu:X.A.units+1 < cLine):OpR X (compareOp .In) (fun x y H Q=>∃ a o,y=.ref a∧qk7 H a x o∧Q (.bl o.isSome) H):=by
 intro pins s σ H x y v u Q I rx ry h
 obtain ⟨a,o,rfl,g,q⟩:=h
 cases (show u=Value.ref a from ry)
 exact d_in hu I g rx fun s' I'=>⟨.bl _,H,I',rfl,q⟩
theorem qry (hu:X.A.units+1 < cLine):OpR X (compareOp .NotIn) (fun x y H Q=>∃ a o,y=.ref a∧qk7 H a x o∧Q (.bl (!o.isSome)) H):=by
 intro pins s σ H x y v u Q I rx ry h
 obtain ⟨a,o,rfl,g,q⟩:=h
 cases (show u=Value.ref a from ry)
 exact q2j hu I g rx fun s' I'=>⟨.bl _,H,I',rfl,q⟩
theorem qpo {H:Hp} {a:Addr} {kvs:List (Key × V)} {k:Key} (e:Rd H a (.dK kvs)):qk7 H a (kV k) (qie kvs k):=.inl ⟨kvs,k,e,rfl,rfl⟩
theorem qrz:∀ {ks:List Key} {vs:List V} (k:Key),ks.length=vs.length→(qie (ks.zip vs) k).isSome=qfb ks k
 | [],[],k,_=>rfl
 | [],_::_,_,h=>by simp at h
 | _::_,[],_,h=>by simp at h
 | j ::ks,v::vs,k,h=>by
   rw[List.zip_cons_cons]
   by_cases e:j=k
   · rw[qe8 e];simp [qfb,e]
   · rw[qe9 e,qrz k (by simpa using h)]
     simp [qfb,e]
theorem qzk {w:Wd} {S:Sto} {d:D} {v:V} {k:Key} (r:Rep w H d v) (e:keyOf (look d S)=some k):v=kV k:=by
 cases h:look d S <;> rw[h]at e <;> simp only [keyOf]at e <;> first | (cases e;done) | skip
 · cases e;exact qr r h
 · cases e;exact qbv r h
theorem q4m {neg:Bool} {op:CmpOp} (ho:OpR X (compareOp op) (q60 neg)) (hd:OpR X (compareOp op) (fun x y H Q=>∃ a o,y=.ref a∧qk7 H a x o∧Q (.bl (neg != o.isSome)) H))
   (hs:OpR X (compareOp op) (fun x y H Q=>∃ i j,x=.str i∧y=.str j∧Q (.bl (neg != !(Builtin.Str.occurrences j i 0 j.length 1).isEmpty)) H)):OpT X (compareOp op) (fun x y S=>inM neg x (look y S) S):=by
 refine⟨_,ho.or (hd.or hs),fun E w H S dx dy x y Q h rx ry q=> ?_⟩
 dsimp only at q
 unfold inM at q
 cases e2:look dy S <;> rw[e2]at q <;> first | exact False.elim q | skip
 case lst es =>
   dsimp only at q
   cases e:qc8 dx es with
   | none=>rw[e]at q;exact False.elim q
   | some b =>
     rw[e]at q
     obtain ⟨a,vs,rfl,ha,hvs⟩:=qj h ry e2
     exact .inl ⟨w,a,vs,es,dx,b,rfl,.inl ha,hvs,rx,e,now h (d:=.bl _) rfl q⟩
 case tup es =>
   dsimp only at q
   cases e:qc8 dx es with
   | none=>rw[e]at q;exact False.elim q
   | some b =>
     rw[e]at q
     obtain ⟨a,vs,rfl,ha,hvs⟩:=qaf h ry e2
     exact .inl ⟨w,a,vs,es,dx,b,rfl,.inr ha,hvs,rx,e,now h (d:=.bl _) rfl q⟩
 case dct ks xs =>
   dsimp only at q
   cases e:keyOf dx with
   | none=>rw[e]at q;exact False.elim q
   | some k =>
     rw[e]at q
     obtain ⟨a,vs,rfl,ha,hl,hvs⟩:=qc7 h ry e2
     have e':keyOf (look dx S)=some k:=by cases dx <;> first | exact e | (cases e;done)
     refine .inr (.inl ⟨a,_,rfl,by rw[qzk rx e'];exact qpo ha,?_⟩)
     rw[qrz k (by rw[hl,hvs.length])]
     exact now h (d:=.bl _) rfl q
 case str j =>
   cases dx <;> first | exact False.elim q | skip
   case str i=>exact .inr (.inr ⟨i,j,rx,qbv ry e2,now h (d:=.bl _) rfl q⟩)
theorem qig (hu:X.A.units+64 < cLine):∀ op:CmpOp,OpT X (compareOp op) (qa6 op)
 | .Lt=>qkp q9t
 | .LtE=>qkp q9u
 | .Gt=>qkp q9v
 | .GtE=>qkp q9w
 | .Eq=>q4l (q6y hu)
 | .NotEq=>q4l (q6z hu)
 | .Is=>qaai
 | .IsNot=>qzi
 | .In=>q4m (q61 hu) (by simpa using qzj (Nat.lt_of_le_of_lt (by omega) hu)) (by simpa using qw3)
 | .NotIn=>q4m (qxm hu) (by simpa using qry (Nat.lt_of_le_of_lt (by omega) hu)) (by simpa using qpf)
end
theorem qfc {α β:Type} {xs:List α} {ys:List β} (h:xs.length=ys.length):xs.isEmpty=ys.isEmpty:=by
 cases xs <;> cases ys <;> first | rfl | (simp at h;done)
noncomputable def qfd (i:Nat) (Γ:Env):M D:=match Γ[i]? with
 | some (some d)=>M.pure d
 | _=>M.fail
noncomputable def asB:D→M Bool
 | .bl b=>M.pure b
 | _=>M.fail
noncomputable def qul:D→M D
 | .int i=>M.pure (.int (-i))
 | _=>M.fail
noncomputable def qhj (d:D):M Bool:=fun S=>match look d S with
 | .non=>M.pure false S
 | .bl b=>M.pure b S
 | .int i=>M.pure (i != 0) S
 | .str y=>(if sizeOk y.length then M.pure ((y.length:Int) != 0)else M.fail) S
 | .lst xs=>M.pure (!xs.isEmpty) S
 | .tup xs=>M.pure (!xs.isEmpty) S
 | .dct ks _=>M.pure (!ks.isEmpty) S
 | _=>M.fail S
section
variable {X:Cx} {E:XW} {a b c:Expr} {f g h':Env→M D} {pos:Pos}
theorem qaaj {i:Nat} {x:Str} (hN:X.N[i]? =some x) (hv:Vis X.env.scope x) (hd:(x==("__debug__":Str))=false) (hcd:(x==("__classdict__":Str))=false):PE X (.Name x pos) (tD E (qfd i)):=by
 refine PE.mono (qt7 hN hv hd hcd) fun σ H Q ⟨w,Γ,S,rel,hold,q⟩=> ?_
 unfold qfd at q
 cases e:Γ[i]? with
 | none=>rw[e]at q;exact False.elim q
 | some o =>
   cases o with
   | none=>rw[e]at q;exact False.elim q
   | some d =>
     rw[e]at q
     obtain ⟨v,ev,rv⟩:=rel.at_ i d e
     exact⟨v,ev,now hold rv q⟩
theorem qhk {v:V} {d:D} {e:Expr} (h:PE X e (tC v)) (hr:∀ w H,Rep w H d v):PE X e (tD E fun _=>M.pure d) :=
 PE.mono h fun σ H Q ⟨w,Γ,S,rel,hold,q⟩=>now hold (hr w H) q
theorem r_op {op:Operator} {k:D→D→M D} (ot:OpT X (binaryOp op) k) (ha:PE X a (tD E f)) (hb:PE X b (tD E g)):PE X (.BinOp a op b pos) (tD E fun Γ=>M.bind (f Γ) fun x=>M.bind (g Γ) fun y=>k x y):=by
 obtain ⟨r,ho,hk⟩:=ot
 refine PE.mono (q9o ho ha hb) fun σ H Q ⟨w,Γ,S,rel,hold,q⟩=> ?_
 exact qd (k:=fun x Γ=>M.bind (g Γ) fun y=>k x y) rel hold q fun dx x S1 w1 H1 l1 rel1 h1 rx q1=>qd (k:=fun y Γ=>k dx y) rel1 h1 q1 fun dy y S2 w2 H2 l2 rel2 h2 ry q2=>hk E w2 H2 S2 dx dy x y Q h2 (rx.mono l2) ry q2
theorem qaak {op:CmpOp} {k:D→D→M D} (ot:OpT X (compareOp op) k) (ha:PE X a (tD E f)) (hb:PE X b (tD E g)) (hm:behindInMarks op b=false):PE X (.Compare a [op] [b] pos) (tD E fun Γ=>M.bind (f Γ) fun x=>M.bind (g Γ) fun y=>k x y):=by
 obtain ⟨r,ho,hk⟩:=ot
 refine PE.mono (q13 ho ha hb hm) fun σ H Q ⟨w,Γ,S,rel,hold,q⟩=> ?_
 exact qd (k:=fun x Γ=>M.bind (g Γ) fun y=>k x y) rel hold q fun dx x S1 w1 H1 l1 rel1 h1 rx q1=>qd (k:=fun y Γ=>k dx y) rel1 h1 q1 fun dy y S2 w2 H2 l2 rel2 h2 ry q2=>hk E w2 H2 S2 dx dy x y Q h2 (rx.mono l2) ry q2
theorem toB {w:Wd} {H:Hp} {S:Sto} {m:M D} {Q:Bool→Hp→Prop} (q:Wp E w H (M.bind m asB S) fun b _ _ H'=>Q b H'):Wp E w H (m S) (PV fun v H'=>∃ k,v=.bl k∧Q k H'):=by
 refine(Wp.bind q).mono fun d S1 w1 H1 l1 h1 q1 v rv=> ?_
 cases d <;> first | exact False.elim q1 | skip
 exact⟨_,rv,q1 _ _ (Le.refl _ _) h1⟩
theorem q62 {op:CmpOp} {k:D→D→M D} (ot:OpT X (compareOp op) k) (ha:PE X a (tD E f)) (hb:PE X b (tD E g)) (hm:behindInMarks op b=false):PT X (.Compare a [op] [b] pos) (tB E fun Γ=>M.bind (M.bind (f Γ) fun x=>M.bind (g Γ) fun y=>k x y) asB):=by
 obtain ⟨r,ho,hk⟩:=ot
 refine PT.mono (q14 ho ha hb hm) fun σ H Q ⟨w,Γ,S,rel,hold,q⟩=> ?_
 exact qd (k:=fun x Γ=>M.bind (g Γ) fun y=>k x y) rel hold (toB q) fun dx x S1 w1 H1 l1 rel1 h1 rx q1=>qd (k:=fun y Γ=>k dx y) rel1 h1 q1 fun dy y S2 w2 H2 l2 rel2 h2 ry q2=>hk E w2 H2 S2 dx dy x y _ h2 (rx.mono l2) ry q2
noncomputable def qih (k k':D→D→M D) (f g h:Env→M D) (Γ:Env):M D:=M.bind (f Γ) fun x=>M.bind (g Γ) fun y=>M.bind (k x y) fun z=>M.bind (asB z) fun b=>if b=true then M.bind (h Γ) fun u=>k' y u else M.pure (.bl false)
theorem qr0 {op op':CmpOp} {k k':D→D→M D} {r r':R2} {σ:St} {H:Hp} {Q:VK} (hk:∀ (E:XW) w H S dx dy x y Q,qe w H S→Rep w H dx x→Rep w H dy y→Wp E w H (k dx dy S) (PV Q)→r x y H Q)
   (hk':∀ (E:XW) w H S dx dy x y Q,qe w H S→Rep w H dx x→Rep w H dy y→Wp E w H (k' dx dy S) (PV Q)→r' x y H Q) {w:Wd} {Γ:Env} {S:Sto} (rel:Rel w H σ Γ) (hold:qe w H S) (q:Wp E w H (qih k k' f g h' Γ S) (PV Q)) :
   qub r r' (tD E f) (tD E g) (tD E h') σ H Q:=by
 refine qd (k:=fun x Γ=>M.bind (g Γ) fun y=>M.bind (k x y) fun z=>M.bind (asB z) fun b=>if b=true then M.bind (h' Γ) fun u=>k' y u else M.pure (.bl false)) rel hold q fun dx x S1 w1 H1 l1 rel1 h1 rx q1=> ?_
 refine qd (k:=fun y Γ=>M.bind (k dx y) fun z=>M.bind (asB z) fun b=>if b=true then M.bind (h' Γ) fun u=>k' y u else M.pure (.bl false)) rel1 h1 q1 fun dy y S2 w2 H2 l2 rel2 h2 ry q2=> ?_
 refine hk E w2 H2 S2 dx dy x y _ h2 (rx.mono l2) ry ((Wp.bind q2).mono fun z S3 w3 H3 l3 h3 q3 v rv=> ?_)
 cases z <;> first | exact False.elim q3 | skip
 rename_i bb
 refine⟨bb,rv,?_⟩
 cases bb with
 | true =>
   rw[if_pos rfl]
   exact qd (k:=fun u Γ=>k' dy u) (rel2.mono l3) h3 q3 fun du u S4 w4 H4 l4 rel4 h4 ru q4=>hk' E w4 H4 S4 dy du y u Q h4 (ry.mono (l3.trans l4)) ru q4
 | false =>
   rw[if_neg Bool.false_ne_true]
   exact now h3 (d:=.bl _) rfl q3
theorem q2o {op op':CmpOp} {k k':D→D→M D} (ot:OpT X (compareOp op) k) (ot':OpT X (compareOp op') k') (ha:PE X a (tD E f)) (hb:PE X b (tD E g)) (hc:PE X c (tD E h')) (hm:lastMarks [op,op'] [b,c]=false):PE X (.Compare a [op,op'] [b,c] pos) (tD E (qih k k' f g h')):=by
 obtain ⟨r,ho,hk⟩:=ot
 obtain ⟨r',ho',hk'⟩:=ot'
 exact PE.mono (qyn ho ho' ha hb hc hm) fun σ H Q ⟨w,Γ,S,rel,hold,q⟩=>qr0 (op:=op) (op':=op') hk hk' rel hold q
theorem qzl {op op':CmpOp} {k k':D→D→M D} (ot:OpT X (compareOp op) k) (ot':OpT X (compareOp op') k') (ha:PE X a (tD E f)) (hb:PE X b (tD E g)) (hc:PE X c (tD E h')) (hm:lastMarks [op,op'] [b,c]=false):PT X (.Compare a [op,op'] [b,c] pos) (tB E fun Γ=>M.bind (qih k k' f g h' Γ) asB):=by
 obtain ⟨r,ho,hk⟩:=ot
 obtain ⟨r',ho',hk'⟩:=ot'
 exact PT.mono (qyo ho ho' ha hb hc hm) fun σ H Q ⟨w,Γ,S,rel,hold,q⟩=>qr0 (op:=op) (op':=op') hk hk' rel hold (toB q)
theorem qaal (ha:PE X a (tD E f)):PE X (.UnaryOp .USub a pos) (tD E fun Γ=>M.bind (f Γ) qul):=by
 refine PE.mono (q9p q5y ha) fun σ H Q ⟨w,Γ,S,rel,hold,q⟩=> ?_
 refine qd (k:=fun x Γ=>qul x) rel hold q fun dx x S1 w1 H1 l1 rel1 h1 rx q1=> ?_
 cases dx <;> first | exact False.elim q1 | skip
 exact⟨_,rx,now h1 (d:=.int _) rfl q1⟩
theorem q63:q9n X (fun x H Q=>∃ a kvs,x=.ref a∧Rd H a (.dK kvs)∧Q (!kvs.isEmpty) H):=by
 intro pins s σ H x v Q I r h
 obtain ⟨a,kvs,rfl,hd,q⟩:=h
 cases (show v=Value.ref a from r)
 exact q2k I hd fun s' I'=>⟨H,I',q⟩
theorem q2p {a:Expr} {ta:TE} (ha:PE X a ta) (he:∀ whole,isTrue a X.env whole=(do let v ← whole;standAt a.pos;holding [v] (truthy v))) :
   PT X a (fun σ H Q=>ta σ H fun x H'=>(∃ k,q9x X.K x H' k∧Q k H')∨∃ a kvs,x=.ref a∧Rd H' a (.dK kvs)∧Q (!kvs.isEmpty) H'):=by
 intro pins s σ H Q I h
 rw[he]
 refine wpAny_bind (thn (ha pins s σ H _ I h) fun v s1 ⟨x,H1,I1,r1,q1⟩=>wpAny_bind (wpAny_standAt (wpAny_holding ?_)))
 rcases q1 with q1 | q1
 · exact q50 pins s1 σ H1 x v Q I1 r1 q1
 · exact q63 pins s1 σ H1 x v Q I1 r1 q1
theorem qaam (ha:PE X a (tD E f)) (he:∀ whole,isTrue a X.env whole=(do let v ← whole;standAt a.pos;holding [v] (truthy v))):PT X a (tB E fun Γ=>M.bind (f Γ) qhj):=by
 refine PT.mono (q2p ha he) fun σ H Q ⟨w,Γ,S,rel,hold,q⟩=> ?_
 refine qd (k:=fun x Γ=>qhj x) rel hold q fun dx x S1 w1 H1 l1 rel1 h1 rx q1=> ?_
 unfold qhj at q1
 cases e:look dx S1 <;> rw[e]at q1 <;> first | exact False.elim q1 | skip
 case non=>exact .inl ⟨false,by rw[qhh rx e];rfl,q1 _ _ (Le.refl _ _) h1⟩
 case bl b=>exact .inl ⟨b,by rw[qvu rx e];rfl,q1 _ _ (Le.refl _ _) h1⟩
 case int i=>exact .inl ⟨i != 0,by rw[qr rx e];rfl,q1 _ _ (Le.refl _ _) h1⟩
 case str y =>
   obtain ⟨hz,q1⟩:=Wp.iteF q1
   exact .inl ⟨_,by rw[qbv rx e];exact⟨of_decide_eq_true hz,rfl⟩,q1 _ _ (Le.refl _ _) h1⟩
 case lst xs =>
   obtain ⟨p,vs,rfl,hp,hvs⟩:=qj h1 rx e
   refine .inl ⟨!vs.isEmpty,.inl ⟨vs,SqL.of hp,rfl⟩,?_⟩
   have:vs.isEmpty=xs.isEmpty:=qfc hvs.length.symm
   rw[this]
   exact q1 _ _ (Le.refl _ _) h1
 case tup xs =>
   obtain ⟨p,vs,rfl,hp,hvs⟩:=qaf h1 rx e
   refine .inl ⟨!vs.isEmpty,.inr (.inl ⟨vs,SqT.of hp,rfl⟩),?_⟩
   have:vs.isEmpty=xs.isEmpty:=qfc hvs.length.symm
   rw[this]
   exact q1 _ _ (Le.refl _ _) h1
 case dct ks xs =>
   obtain ⟨p,vs,rfl,hp,hl,hvs⟩:=qc7 h1 rx e
   refine .inr ⟨p,_,rfl,hp,?_⟩
   have:(ks.zip vs).isEmpty=ks.isEmpty:=qfc (by rw[List.length_zip,← hvs.length,← hl,Nat.min_self])
   rw[this]
   exact q1 _ _ (Le.refl _ _) h1
theorem qcy {α:Type} {f:Env→M Bool} {k:Bool→Env→M α} {σ:St} {H:Hp} {w:Wd} {Γ:Env} {S:Sto} {P:α→Sto→Wd→Hp→Prop} {Q:Bool→Hp→Prop} (r:Rel w H σ Γ) (h:qe w H S)
   (q:Wp E w H (M.bind (f Γ) (fun d=>k d Γ) S) P) (hk:∀ b S1 w1 H1,Le w H w1 H1→Rel w1 H1 σ Γ→qe w1 H1 S1→Wp E w1 H1 (k b Γ S1) P→Q b H1):tB E f σ H Q :=
 ⟨w,Γ,S,r,h,(Wp.bind q).mono fun b S1 w1 H1 l h1 q1=>hk b S1 w1 H1 l (r.mono l) h1 q1⟩
noncomputable def q64 (f g:Env→M Bool) (Γ:Env):M Bool:=M.bind (f Γ) fun b=>if b=true then g Γ else M.pure false
noncomputable def orB (f g:Env→M Bool) (Γ:Env):M Bool:=M.bind (f Γ) fun b=>if b=true then M.pure true else g Γ
noncomputable def q65 (f:Env→M Bool) (Γ:Env):M Bool:=M.bind (f Γ) fun b=>M.pure (!b)
theorem PW.mono {e:Expr} {t t':TT} (h:PW X e t) (k:∀ σ H Q,t' σ H Q→t σ H Q):PW X e t':=fun wh pins s σ H Q I q=>h wh pins s σ H Q I (k σ H Q q)
variable {fa fb:Env→M Bool} {rest:List Expr}
theorem qzm (ha:PT X a (tB E fa)):PW X (.BoolOp .And [a] pos) (tB E fa):=q1q ha
theorem q4n (ha:PT X a (tB E fa)):PW X (.BoolOp .Or [a] pos) (tB E fa):=q5b ha
theorem qzn (ha:PT X a (tB E fa)) (hb:PW X (.BoolOp .And (b::rest) pos) (tB E fb)):PW X (.BoolOp .And (a::b::rest) pos) (tB E (q64 fa fb)):=by
 refine PW.mono (q5c ha hb) fun σ H Q ⟨w,Γ,S,rel,hold,q⟩=> ?_
 refine qcy (k:=fun b Γ=>if b=true then fb Γ else M.pure false) rel hold q fun bb S1 w1 H1 l1 rel1 h1 q1=> ?_
 cases bb with
 | true=>exact⟨w1,Γ,S1,rel1,h1,q1⟩
 | false=>exact q1 _ _ (Le.refl _ _) h1
theorem q4o (ha:PT X a (tB E fa)) (hb:PW X (.BoolOp .Or (b::rest) pos) (tB E fb)):PW X (.BoolOp .Or (a::b::rest) pos) (tB E (orB fa fb)):=by
 refine PW.mono (q9a ha hb) fun σ H Q ⟨w,Γ,S,rel,hold,q⟩=> ?_
 refine qcy (k:=fun b Γ=>if b=true then M.pure true else fb Γ) rel hold q fun bb S1 w1 H1 l1 rel1 h1 q1=> ?_
 cases bb with
 | false=>exact⟨w1,Γ,S1,rel1,h1,q1⟩
 | true=>exact q1 _ _ (Le.refl _ _) h1
theorem q66 (ha:PT X a (tB E fa)):PT X (.UnaryOp .Not a pos) (tB E (q65 fa)):=by
 refine PT.mono (q5d ha) fun σ H Q ⟨w,Γ,S,rel,hold,q⟩=> ?_
 exact qcy (k:=fun b Γ=>M.pure (!b)) rel hold q fun bb S1 w1 H1 l1 rel1 h1 q1=>q1 _ _ (Le.refl _ _) h1
noncomputable def q67 (f g:Env→M D) (Γ:Env):M D:=M.bind (f Γ) fun x=>M.bind (asB x) fun b=>if b=true then g Γ else M.pure (.bl false)
noncomputable def orV (f g:Env→M D) (Γ:Env):M D:=M.bind (f Γ) fun x=>M.bind (asB x) fun b=>if b=true then M.pure (.bl true)else g Γ
noncomputable def q68 (f:Env→M D) (Γ:Env):M D:=M.bind (f Γ) fun x=>M.bind (asB x) fun b=>M.pure (.bl (!b))
theorem qaan {op:BoolOp} (ha:PE X a (tD E f)):PE X (.BoolOp op [a] pos) (tD E f):=q5e ha
theorem qaao (ha:PE X a (tD E f)) (hb:PE X (.BoolOp .And (b::rest) pos) (tD E g)):PE X (.BoolOp .And (a::b::rest) pos) (tD E (q67 f g)):=by
 refine PE.mono (q5f ha hb) fun σ H Q ⟨w,Γ,S,rel,hold,q⟩=> ?_
 refine qd (k:=fun x Γ=>M.bind (asB x) fun b=>if b=true then g Γ else M.pure (.bl false)) rel hold q fun dx x S1 w1 H1 l1 rel1 h1 rx q1=> ?_
 cases dx <;> first | exact False.elim q1 | skip
 rename_i bb
 refine⟨bb,rx,?_⟩
 cases bb with
 | true=>exact⟨w1,Γ,S1,rel1,h1,q1⟩
 | false=>exact now h1 (d:=.bl _) rfl q1
theorem r_or (ha:PE X a (tD E f)) (hb:PE X (.BoolOp .Or (b::rest) pos) (tD E g)):PE X (.BoolOp .Or (a::b::rest) pos) (tD E (orV f g)):=by
 refine PE.mono (q9d ha hb) fun σ H Q ⟨w,Γ,S,rel,hold,q⟩=> ?_
 refine qd (k:=fun x Γ=>M.bind (asB x) fun b=>if b=true then M.pure (D.bl true)else g Γ) rel hold q fun dx x S1 w1 H1 l1 rel1 h1 rx q1=> ?_
 cases dx <;> first | exact False.elim q1 | skip
 rename_i bb
 refine⟨bb,rx,?_⟩
 cases bb with
 | false=>exact⟨w1,Γ,S1,rel1,h1,q1⟩
 | true=>exact now h1 (d:=.bl _) rfl q1
theorem qaap (ha:PE X a (tD E f)):PE X (.UnaryOp .Not a pos) (tD E (q68 f)):=by
 refine PE.mono (q5g ha) fun σ H Q ⟨w,Γ,S,rel,hold,q⟩=> ?_
 refine qd (k:=fun x Γ=>M.bind (asB x) fun b=>M.pure (D.bl (!b))) rel hold q fun dx x S1 w1 H1 l1 rel1 h1 rx q1=> ?_
 cases dx <;> first | exact False.elim q1 | skip
 exact⟨_,rx,now h1 (d:=.bl _) rfl q1⟩
noncomputable def ifE (c:Env→M Bool) (f g:Env→M D) (Γ:Env):M D:=M.bind (c Γ) fun b=>if b=true then f Γ else g Γ
theorem qaaq (hc:PT X c (tB E fa)) (ha:PE X a (tD E f)) (hb:PE X b (tD E g)):PE X (.IfExp c a b pos) (tD E (ifE fa f g)):=by
 refine PE.mono (qyg hc ha hb) fun σ H Q ⟨w,Γ,S,rel,hold,q⟩=> ?_
 refine qcy (k:=fun b Γ=>if b=true then f Γ else g Γ) rel hold q fun bb S1 w1 H1 l1 rel1 h1 q1=> ?_
 cases bb with
 | true=>exact⟨w1,Γ,S1,rel1,h1,q1⟩
 | false=>exact⟨w1,Γ,S1,rel1,h1,q1⟩
variable {es:List Expr} {e:Expr} {fs:Env→M (List D)}
noncomputable def qzo (f:Env→M D) (r:Env→M (List D)) (Γ:Env):M (List D):=M.bind (f Γ) fun x=>M.bind (r Γ) fun xs=>M.pure (x::xs)
theorem qaar:PA X [] (tL E fun _=>M.pure []):=PA.mono qh8 fun σ H Q ⟨w,Γ,S,rel,hold,q⟩=>q _ _ (Le.refl _ _) hold [] rfl
theorem q69 (ha:PE X e (tD E f)) (hr:PA X es (tL E fs)) (hs:starEach (e::es) X.env=(false,eval e X.env)::starEach es X.env):PA X (e::es) (tL E (qzo f fs)):=by
 refine PA.mono (qcu ha hr hs) fun σ H Q ⟨w,Γ,S,rel,hold,q⟩=> ?_
 refine qd (k:=fun x Γ=>M.bind (fs Γ) fun xs=>M.pure (x::xs)) rel hold q fun dx x S1 w1 H1 l1 rel1 h1 rx q1=> ?_
 exact⟨w1,Γ,S1,rel1,h1,(Wp.bind q1).mono fun ds S2 w2 H2 l2 h2 q2 vs rvs=>q2 _ _ (Le.refl _ _) h2 _ (qb.cons (rx.mono l2) rvs)⟩
theorem qbw {α:Type} {f:Env→M (List D)} {k:List D→Env→M α} {σ:St} {H:Hp} {w:Wd} {Γ:Env} {S:Sto} {P:α→Sto→Wd→Hp→Prop} {Q:List V→Hp→Prop} (r:Rel w H σ Γ) (h:qe w H S)
   (q:Wp E w H (M.bind (f Γ) (fun d=>k d Γ) S) P) (hk:∀ ds vs S1 w1 H1,Le w H w1 H1→Rel w1 H1 σ Γ→qe w1 H1 S1→qb w1 H1 ds vs→Wp E w1 H1 (k ds Γ S1) P→Q vs H1):tL E f σ H Q :=
 ⟨w,Γ,S,r,h,(Wp.bind q).mono fun d S1 w1 H1 l h1 q1 v rv=>hk d v S1 w1 H1 l (r.mono l) h1 rv q1⟩
noncomputable def mkT (ds:List D):M D:=if sizeOk ds.length then M.pure (.tup ds)else M.fail
noncomputable def mkL (new:Bool) (ds:List D):M D:=if sizeOk ds.length then alloc new (.lst ds)else M.fail
theorem qaas {x1:Nat} (h:PA X es (tL E fs)):PE X (.Tuple es x1 pos) (tD E fun Γ=>M.bind (fs Γ) mkT):=by
 refine PE.mono (q52 h) fun σ H Q ⟨w,Γ,S,rel,hold,q⟩=> ?_
 refine qbw (k:=fun ds _=>mkT ds) rel hold q fun ds vs S1 w1 H1 l1 rel1 h1 rv q1=> ?_
 obtain ⟨hz,q1⟩:=Wp.iteF q1
 exact⟨by rw[← rv.length];exact of_decide_eq_true hz,fun p hp=>qkm h1 rv q1 hp⟩
theorem qaat {new:Bool} (h:PA X es (tL E fs)):PE X (.List es pos) (tD E fun Γ=>M.bind (fs Γ) (mkL new)):=by
 refine PE.mono (qyp h) fun σ H Q ⟨w,Γ,S,rel,hold,q⟩=> ?_
 refine qbw (k:=fun ds _=>mkL new ds) rel hold q fun ds vs S1 w1 H1 l1 rel1 h1 rv q1=> ?_
 obtain ⟨hz,q1⟩:=Wp.iteF q1
 exact⟨by rw[← rv.length];exact of_decide_eq_true hz,fun p hp=>qaw h1 rv q1 hp⟩
theorem q7a {new:Bool}:PE X (.Dict [] [] pos) (tD E fun _=>alloc new (.dct [] [])) :=
 PE.mono qze fun σ H Q ⟨w,Γ,S,rel,hold,q⟩=>fun p hp=>qol (ks:=[]) (xs:=[]) (vs:=[]) hold rfl rfl q hp
end
end T3
namespace L2
open PySem PySem.Spec PyProof.Rows
section
variable {X:Cx}
noncomputable def q2q:V→List V→Hp→VK→Prop:=fun x vs H Q=>∃ (l:Addr) (xs:List V) (j:Int) (y:V),x=.ref l∧vs=[.int j,y]∧0≤j∧j≤xs.length∧H l=some (.lst xs)∧xs.length < sizeLine∧Q .non (upd H l (.lst (xs.take j.toNat++y::xs.drop j.toNat)))
theorem qxn:MtM X "list.insert" q2q:=by
 intro pins s σ H x vs v us Q I rx rv h
 obtain ⟨l,xs,j,y,rfl,rfl,j0,hj,hH,hz,q⟩:=h
 cases rx
 obtain ⟨u,u2,rfl,ru,ru2⟩:=rv.two
 obtain ⟨t,rfl⟩:=ru
 obtain ⟨z,its,n,r,hl,e⟩:=I.lstM hH
 have hs:sizeLine=16777216:=sizeLine_eq
 have hf:Builtin.List.listFitsIndex j=true:=by
   unfold Builtin.List.listFitsIndex
   simp
   omega
 have hc:¬ (!Builtin.List.listFitsIndex j)=true:=by rw[hf];decide
 have hsz:its.toArray.size≤sizeLine:=by rw[List.size_toArray];omega
 refine call_meets PySem.F.slot_list_insert ⟨_,e,rfl⟩ PySem.F.entry_list_insert (PySem.F.args_list_insert_3 _ _ _) (PySem.AutoSeq1.list_insert_list_int_val_1 l its.toArray n j t u2 hc hsz) ⟨e,?_⟩
 refine⟨.non,_,I.lset (its':=its.take j.toNat++u2::its.drop j.toNat) hH e ?_ ((r.take j.toNat).append (.cons ru2 (r.drop j.toNat))) ?_,rfl,q⟩
 · have hn:¬ (j < 0):=by omega
   have hm:min j.toNat its.length=j.toNat:=by omega
   simp only [hn,if_false,List.size_toArray,hm]
   apply Array.ext'
   simp
   rw[List.take_of_length_le (by simp)]
 · simp
   omega
end
open PySem
section
variable {X:Cx}
end
section
variable {X:Cx}
noncomputable def rJoin (K:PySem.W.Frag):V→List V→Hp→VK→Prop:=fun x vs H Q=>∃ (z:Str) (l:Addr) (ys:List Str),x=.str z∧vs=[.ref l]∧SqL K H l (ys.map V.str)∧(ys.map (·.length)).sum+ys.length * z.length≤16777216∧Q (.str (PySem.Txt.join z ys)) H
theorem qvw:∀ {ys:List Str} {us:List Value},Vals (ys.map V.str) us→StrsAre us ys
 | [],_,.nil=>.nil
 | y::ys,_,.cons r t=>by
   obtain ⟨k,rfl⟩:=r
   exact .cons y k (qvw t)
theorem q2r:MtM X "str.join" (rJoin X.K):=by
 intro pins s σ H x vs v us Q I rx rv h
 obtain ⟨z,l,ys,rfl,rfl,hl,hz,q⟩:=h
 obtain ⟨t,rfl⟩:=rx
 obtain ⟨u,rfl,ru⟩:=rv.one
 cases ru
 obtain ⟨its,r,pl,_⟩:=I.list hl
 exact join_list pl.isList (by simpa using qvw r) hz fun t' k=>⟨.str _,H,I.tok k,⟨t',rfl⟩,q⟩
end
end L2
namespace T3
open PySem PySem.Spec PyProof.Rows L2
noncomputable def qfe:List Key→List D→Key→Option D
 | k::ks,d::ds,j=>if k=j then some d else qfe ks ds j
 | _,_,_=>none
noncomputable def ixM (x y:D):M D:=match x,y with
 | .lst xs,.int i=>match atI xs i with
   | some d=>M.pure d
   | none=>M.fail
 | .tup xs,.int i=>match atI xs i with
   | some d=>M.pure d
   | none=>M.fail
 | .str z,.int i=>match atI z.cps.toList i with
   | some c=>if sizeOk z.length then M.pure (.str ⟨#[c]⟩)else M.fail
   | none=>M.fail
 | .dct ks ds,k=>match keyOf k with
   | some j=>match qfe ks ds j with
     | some d=>M.pure d
     | none=>M.fail
   | none=>M.fail
 | _,_=>M.fail
theorem qpp {w:Wd} {H:Hp} {ds:List D} {vs:List V} {i:Int} {d:D} (r:qb w H ds vs) (e:atI ds i=some d):∃ v,atI vs i=some v∧Rep w H d v:=by
 unfold atI at e ⊢
 rw[← r.length]
 cases q:ixN ds.length i with
 | none=>rw[q]at e;simp at e
 | some j =>
   rw[q]at e
   have e:ds[j]? =some d:=e
   obtain ⟨v,h1,h2⟩:=r.get e
   exact⟨v,h1,h2⟩
theorem qlc {w:Wd} {H:Hp} {j:Key} {d:D}:∀ {ks:List Key} {ds:List D} {vs:List V},qb w H ds vs→qfe ks ds j=some d→∃ v,qie (ks.zip vs) j=some v∧Rep w H d v
 | [],_,_,_,e=>by simp [qfe]at e
 | _::_,[],_,_,e=>by simp [qfe]at e
 | k ::ks,x::ds,_,⟨v,r,e0,h,t⟩,e=>by
   subst e0
   rw[qfe]at e
   rw[List.zip_cons_cons]
   by_cases hk:k=j
   · rw[if_pos hk]at e
     cases e
     exact⟨v,qe8 hk,h⟩
   · rw[if_neg hk]at e
     obtain ⟨u,h1,h2⟩:=qlc t e
     exact⟨u,by rw[qe9 hk];exact h1,h2⟩
section
variable {X:Cx} {E:XW} {a b c:Expr} {f g h':Env→M D} {pos:Pos}
theorem q7b (hu:X.A.units+1 < cLine):IxR X (fun x y H Q=>∃ a v,x=.ref a∧qk7 H a y (some v)∧Q v H):=by
 intro value slice pins s σ H x y v u Q I rx ry h hs
 obtain ⟨p,z,rfl,g,q⟩:=h
 cases (show v=Value.ref p from rx)
 unfold subscriptTail
 have hT:=qrs I g
 refine wpAny_bind ?_
 rw[getitemInPython_of_ne hT.not_modules]
 refine wpAny_bind (wpAny_specialOf hT PySem.F.slot_dict_getitem.lookup ?_)
 have fin:wpAny (model X.prog X.w) X.A (subscripted slice false (.ref p) u) (fun r s₃=>wpAny (model X.prog X.w) X.A (letTemporaryGo value (.ref p) r >>= fun _=>pure r) (EP X pins σ Q) X.xe s₃) X.xe s:=by
   rw[hs]
   exact wpAny_operating (qoi hu I g ry fun w' s3 I3 rw'=>wpAny_bind (wpAny_letTemporaryGo (wpAny_pure ⟨z,H,I3,rw',q⟩)))
 exact wpAny_pure (wpAny_bind fin)
noncomputable def IxT (X:Cx) (h:D→D→M D):Prop:=∃ r:R2,IxR X r∧∀ (E:XW) w H S dx dy x y Q,qe w H S→Rep w H dx x→Rep w H dy y→Wp E w H (h dx dy S) (PV Q)→r x y H Q
theorem qaau (hu:X.A.units+1 < cLine):IxT X (fun x y S=>ixM (look x S) y S):=by
 refine⟨_,q19.or (qyu.or (q56.or (q7b hu))),fun E w H S dx dy x y Q h rx ry q=> ?_⟩
 dsimp only at q
 unfold ixM at q
 cases e1:look dx S <;> rw[e1]at q <;> first | exact False.elim q | skip
 case lst xs =>
   cases dy <;> first | exact False.elim q | skip
   rename_i i
   dsimp only at q
   cases e:atI xs i with
   | none=>rw[e]at q;exact False.elim q
   | some d =>
     rw[e]at q
     obtain ⟨p,vs,rfl,hp,hvs⟩:=qj h rx e1
     obtain ⟨v,e',rv⟩:=qpp hvs e
     exact .inl ⟨p,vs,i,v,rfl,ry,SqL.of hp,e',now h rv q⟩
 case tup xs =>
   cases dy <;> first | exact False.elim q | skip
   rename_i i
   dsimp only at q
   cases e:atI xs i with
   | none=>rw[e]at q;exact False.elim q
   | some d =>
     rw[e]at q
     obtain ⟨p,vs,rfl,hp,hvs⟩:=qaf h rx e1
     obtain ⟨v,e',rv⟩:=qpp hvs e
     exact .inr (.inl ⟨p,vs,i,v,rfl,ry,SqT.of hp,e',now h rv q⟩)
 case str z =>
   cases dy <;> first | exact False.elim q | skip
   rename_i i
   dsimp only at q
   cases e:atI z.cps.toList i with
   | none=>rw[e]at q;exact False.elim q
   | some c =>
     rw[e]at q
     obtain ⟨hz,q⟩:=Wp.iteF q
     exact .inr (.inr (.inl ⟨z,i,c,qbv rx e1,ry,of_decide_eq_true hz,e,now h (d:=.str _) rfl q⟩))
 case dct ks ds =>
   dsimp only at q
   cases e:keyOf dy with
   | none=>rw[e]at q;exact False.elim q
   | some j =>
     rw[e]at q
     dsimp only at q
     cases e2:qfe ks ds j with
     | none=>rw[e2]at q;exact False.elim q
     | some d =>
       rw[e2]at q
       obtain ⟨p,vs,rfl,hp,hl,hvs⟩:=qc7 h rx e1
       obtain ⟨v,e',rv⟩:=qlc hvs e2
       refine .inr (.inr (.inr ⟨p,v,rfl,?_,now h rv q⟩))
       have:y=kV j:=by cases dy <;> first | (cases e;exact ry) | (cases e;done)
       rw[this,← e']
       exact qpo hp
theorem r_ix {k:D→D→M D} (ot:IxT X k) (ha:PE X a (tD E f)) (hb:PE X b (tD E g)) (hs:qph b):PE X (.Subscript a b pos) (tD E fun Γ=>M.bind (f Γ) fun x=>M.bind (g Γ) fun y=>k x y):=by
 obtain ⟨r,ho,hk⟩:=ot
 refine PE.mono (q93 ho ha hb hs) fun σ H Q ⟨w,Γ,S,rel,hold,q⟩=> ?_
 exact qd (k:=fun x Γ=>M.bind (g Γ) fun y=>k x y) rel hold q fun dx x S1 w1 H1 l1 rel1 h1 rx q1=>qd (k:=fun y Γ=>k dx y) rel1 h1 q1 fun dy y S2 w2 H2 l2 rel2 h2 ry q2=>hk E w2 H2 S2 dx dy x y Q h2 (rx.mono l2) ry q2
noncomputable def tO (E:XW) (f:Env→M (Option Int)):TO:=fun σ H Q=>∃ w Γ S,Rel w H σ Γ∧qe w H S∧Wp E w H (f Γ S) fun o _ _ H'=>Q o H'
theorem PO.mono {e:Option Expr} {t t':TO} (h:PO X e t) (k:∀ σ H Q,t' σ H Q→t σ H Q):PO X e t':=fun pins s σ H Q I q=>h pins s σ H Q I (k σ H Q q)
noncomputable def asI:D→M (Option Int)
 | .int i=>M.pure (some i)
 | _=>M.fail
theorem q2s:PO X none (tO E fun _=>M.pure none):=PO.mono qvn fun σ H Q ⟨w,Γ,S,rel,hold,q⟩=>q _ _ (Le.refl _ _) hold
theorem q2t (ha:PE X a (tD E f)):PO X (some a) (tO E fun Γ=>M.bind (f Γ) asI):=by
 refine PO.mono (qvo ha) fun σ H Q ⟨w,Γ,S,rel,hold,q⟩=> ?_
 refine qd (k:=fun x _=>asI x) rel hold q fun dx x S1 w1 H1 l1 rel1 h1 rx q1=> ?_
 cases dx <;> first | exact False.elim q1 | skip
 exact⟨_,rx,q1 _ _ (Le.refl _ _) h1⟩
noncomputable def cutD (xs:List D) (lo hi:Option Int):List D:=(xs.drop (HT.sIx xs.length 0 lo)).take (HT.sIx xs.length xs.length hi - HT.sIx xs.length 0 lo)
theorem qvx {w:Wd} {H:Hp} {xs:List D} {vs:List V} (r:qb w H xs vs) (lo hi:Option Int):qb w H (cutD xs lo hi) (qj3 vs lo hi):=by
 unfold cutD qj3
 rw[r.length]
 exact(r.drop _).take _
noncomputable def slM (new:Bool) (x:D) (lo hi:Option Int):M D:=match x with
 | .lst xs=>alloc new (.lst (cutD xs lo hi))
 | .tup xs=>if decide (¬ (HT.sIx xs.length 0 lo=0∧HT.sIx xs.length xs.length hi=xs.length))then M.pure (.tup (cutD xs lo hi))else M.fail
 | _=>M.fail
noncomputable def slD (new:Bool) (f:Env→M D) (lo hi:Env→M (Option Int)) (Γ:Env):M D:=M.bind (f Γ) fun x=>M.bind (lo Γ) fun l=>M.bind (hi Γ) fun h S=>slM new (look x S) l h S
theorem qvy {α:Type} {f:Env→M (Option Int)} {k:Option Int→Env→M α} {σ:St} {H:Hp} {w:Wd} {Γ:Env} {S:Sto} {P:α→Sto→Wd→Hp→Prop} {Q:Option Int→Hp→Prop} (r:Rel w H σ Γ) (h:qe w H S)
   (q:Wp E w H (M.bind (f Γ) (fun d=>k d Γ) S) P) (hk:∀ b S1 w1 H1,Le w H w1 H1→Rel w1 H1 σ Γ→qe w1 H1 S1→Wp E w1 H1 (k b Γ S1) P→Q b H1):tO E f σ H Q :=
 ⟨w,Γ,S,r,h,(Wp.bind q).mono fun b S1 w1 H1 l h1 q1=>hk b S1 w1 H1 l (r.mono l) h1 q1⟩
theorem r_sl {new:Bool} {lo hi:Option Expr} {fl fh:Env→M (Option Int)} {p2:Pos} (ha:PE X a (tD E f)) (hl:PO X lo (tO E fl)) (hh:PO X hi (tO E fh)):PE X (.Subscript a (.Slice lo hi none p2) pos) (tD E (slD new f fl fh)):=by
 refine PE.mono (qrl (qvq.or q54) ha hl hh) fun σ H Q ⟨w,Γ,S,rel,hold,q⟩=> ?_
 refine qd (k:=fun x Γ=>M.bind (fl Γ) fun l=>M.bind (fh Γ) fun h S=>slM new (look x S) l h S) rel hold q fun dx x S1 w1 H1 l1 rel1 h1 rx q1=> ?_
 refine qvy (k:=fun l Γ=>M.bind (fh Γ) fun h S=>slM new (look dx S) l h S) rel1 h1 q1 fun l S2 w2 H2 l2 rel2 h2 q2=> ?_
 refine qvy (k:=fun h Γ S=>slM new (look dx S) l h S) rel2 h2 q2 fun h S3 w3 H3 l3 rel3 h3 q3=> ?_
 have rx:=rx.mono (l2.trans l3)
 unfold slM at q3
 cases e1:look dx S3 <;> rw[e1]at q3 <;> first | exact False.elim q3 | skip
 case lst xs =>
   obtain ⟨p,vs,rfl,hp,hvs⟩:=qj h3 rx e1
   exact .inl ⟨p,vs,rfl,SqL.of hp,fun p' hp'=>qaw h3 (qvx hvs _ _) q3 hp'⟩
 case tup xs =>
   obtain ⟨p,vs,rfl,hp,hvs⟩:=qaf h3 rx e1
   obtain ⟨hz,q3⟩:=Wp.iteF q3
   exact .inr ⟨p,vs,rfl,SqT.of hp,by rw[← hvs.length];exact of_decide_eq_true hz,fun p' hp'=>qkm h3 (qvx hvs _ _) q3 hp'⟩
noncomputable def qc9 (X:Cx) (F:Value) (h:List D→M D):Prop:=∃ r:List V→Hp→VK→Prop,qaj X F r∧∀ (E:XW) w H S ds vs Q,qe w H S→qb w H ds vs→Wp E w H (h ds S) (PV Q)→r vs H Q
variable {x:Str} {p:Pos} {e:Expr} {es:List Expr} {fs:Env→M (List D)} {k:List D→M D}
theorem qdk {id:String} (ot:qc9 X (.builtin id) k) (hg:Gl X x) (hm:X.mg x=none) (hv:bootBuiltins x=some (.builtin id)) (ha:PA X (e::es) (tL E fs)) (hn:x ≠ "__name__") (hdb:(x==("__debug__":Str))=false)
   (he:starEach (e::es) X.env=(false,eval e X.env)::starEach es X.env) (hpl:(backTo pos (starEach es X.env)).any (·.1)=false):PE X (.Call (.Name x p) (e::es) [] pos) (tD E fun Γ=>M.bind (fs Γ) k):=by
 obtain ⟨r,ho,hk⟩:=ot
 refine PE.mono (qrk ho hg hm hv ha hn hdb he hpl) fun σ H Q ⟨w,Γ,S,rel,hold,q⟩=> ?_
 exact qbw (k:=fun ds _=>k ds) rel hold q fun ds vs S1 w1 H1 l1 rel1 h1 rv q1=>hk E w1 H1 S1 ds vs Q h1 rv q1
theorem qff {T:String} (ot:qc9 X (.type T) k) (hg:Gl X x) (hm:X.mg x=none) (hv:bootBuiltins x=some (.type T)) (ha:PA X (e::es) (tL E fs)) (hn:x ≠ "__name__") (hdb:(x==("__debug__":Str))=false)
   (he:starEach (e::es) X.env=(false,eval e X.env)::starEach es X.env) (hpl:(backTo pos (starEach es X.env)).any (·.1)=false):PE X (.Call (.Name x p) (e::es) [] pos) (tD E fun Γ=>M.bind (fs Γ) k):=by
 obtain ⟨r,ho,hk⟩:=ot
 refine PE.mono (qh9 ho hg hm hv ha hn hdb he hpl) fun σ H Q ⟨w,Γ,S,rel,hold,q⟩=> ?_
 exact qbw (k:=fun ds _=>k ds) rel hold q fun ds vs S1 w1 H1 l1 rel1 h1 rv q1=>hk E w1 H1 S1 ds vs Q h1 rv q1
theorem qb.nil_ {w:Wd} {H:Hp} {vs:List V} (r:qb w H [] vs):vs=[]:=r
theorem qb.one_ {w:Wd} {H:Hp} {d:D} {vs:List V} (r:qb w H [d] vs):∃ v,vs=[v]∧Rep w H d v:=by
 obtain ⟨v,u,e,h,t⟩:=r
 cases (show u=[] from t)
 exact⟨v,e,h⟩
theorem qb.two_ {w:Wd} {H:Hp} {d d':D} {vs:List V} (r:qb w H [d,d'] vs):∃ v v',vs=[v,v']∧Rep w H d v∧Rep w H d' v':=by
 obtain ⟨v,u,e,h,t⟩:=r
 obtain ⟨v',e',h'⟩:=t.one_
 subst e'
 exact⟨v,v',e,h,h'⟩
noncomputable def qr1:List D→M D
 | [d]=>fun S=>match look d S with
   | .lst xs=>M.pure (.int xs.length) S
   | .tup xs=>M.pure (.int xs.length) S
   | .dct ks _=>M.pure (.int ks.length) S
   | .str z=>(if sizeOk z.length then M.pure (.int z.length)else M.fail) S
   | _=>M.fail S
 | _=>M.fail
theorem qxo:qaj X (.builtin "len") (fun xs H Q=>∃ a kvs,xs=[V.ref a]∧Rd H a (.dK kvs)∧Q (.int kvs.length) H):=by
 intro pins s σ H xs us Q I r h
 obtain ⟨a,kvs,rfl,ha,q⟩:=h
 obtain ⟨u,rfl,ru⟩:=vals1 r
 cases ru
 exact qaae I ha fun t s' I'=>⟨.int kvs.length,H,I',⟨t,rfl⟩,q⟩
theorem q7c:qc9 X (.builtin "len") qr1:=by
 refine⟨_,qpj.or (qxo.or qpk),fun E w H S ds vs Q h rv q=> ?_⟩
 unfold qr1 at q
 split at q
 case h_2=>exact False.elim q
 case h_1 d =>
   obtain ⟨v,rfl,r⟩:=rv.one_
   cases e1:look d S <;> rw[e1]at q <;> first | exact False.elim q | skip
   case lst xs =>
     obtain ⟨p,vs,rfl,hp,hvs⟩:=qj h r e1
     exact .inl ⟨p,vs,rfl,.inl (SqL.of hp),by rw[← hvs.length];exact now h (d:=.int _) rfl q⟩
   case tup xs =>
     obtain ⟨p,vs,rfl,hp,hvs⟩:=qaf h r e1
     exact .inl ⟨p,vs,rfl,.inr (SqT.of hp),by rw[← hvs.length];exact now h (d:=.int _) rfl q⟩
   case dct ks xs =>
     obtain ⟨p,vs,rfl,hp,hl,hvs⟩:=qc7 h r e1
     refine .inr (.inl ⟨p,_,rfl,hp,?_⟩)
     rw[List.length_zip,← hvs.length,← hl,Nat.min_self]
     exact now h (d:=.int _) rfl q
   case str z =>
     obtain ⟨hz,q⟩:=Wp.iteF q
     exact .inr (.inr ⟨z,by rw[qbv r e1],of_decide_eq_true hz,now h (d:=.int _) rfl q⟩)
noncomputable def intsOf:List D→Option (List Int)
 | []=>some []
 | .int i::ds=>(intsOf ds).map (i::·)
 | _=>none
noncomputable def qa0:List D→Option (List Bool)
 | []=>some []
 | .bl i::ds=>(qa0 ds).map (i::·)
 | _=>none
noncomputable def strsOf:List D→Option (List Str)
 | []=>some []
 | .str i::ds=>(strsOf ds).map (i::·)
 | _=>none
theorem qbn {w:Wd} {H:Hp}:∀ {ds:List D} {vs:List V} {ns:List Int},intsOf ds=some ns→qb w H ds vs→vs=ns.map V.int
 | [],_,_,e,r=>by cases e;exact r
 | .int i::ds,_,_,e,⟨v,u,e1,h,t⟩=>by
   simp only [intsOf,Option.map_eq_some_iff]at e
   obtain ⟨ns,e2,rfl⟩:=e
   rw[e1,qbn e2 t,show v=.int i from h]
   rfl
 | .non::_,_,_,e,_=>by simp [intsOf]at e
 | .bl _::_,_,_,e,_=>by simp [intsOf]at e
 | .str _::_,_,_,e,_=>by simp [intsOf]at e
 | .ty _::_,_,_,e,_=>by simp [intsOf]at e
 | .at_ _::_,_,_,e,_=>by simp [intsOf]at e
 | .ref _::_,_,_,e,_=>by simp [intsOf]at e
 | .lst _::_,_,_,e,_=>by simp [intsOf]at e
 | .tup _::_,_,_,e,_=>by simp [intsOf]at e
 | .dct _ _::_,_,_,e,_=>by simp [intsOf]at e
 | .obj _ _ _::_,_,_,e,_=>by simp [intsOf]at e
theorem qii {w:Wd} {H:Hp}:∀ {ds:List D} {vs:List V} {ns:List Bool},qa0 ds=some ns→qb w H ds vs→vs=ns.map V.bl
 | [],_,_,e,r=>by cases e;exact r
 | .bl i::ds,_,_,e,⟨v,u,e1,h,t⟩=>by
   simp only [qa0,Option.map_eq_some_iff]at e
   obtain ⟨ns,e2,rfl⟩:=e
   rw[e1,qii e2 t,show v=.bl i from h]
   rfl
 | .non::_,_,_,e,_=>by simp [qa0]at e
 | .int _::_,_,_,e,_=>by simp [qa0]at e
 | .str _::_,_,_,e,_=>by simp [qa0]at e
 | .ty _::_,_,_,e,_=>by simp [qa0]at e
 | .at_ _::_,_,_,e,_=>by simp [qa0]at e
 | .ref _::_,_,_,e,_=>by simp [qa0]at e
 | .lst _::_,_,_,e,_=>by simp [qa0]at e
 | .tup _::_,_,_,e,_=>by simp [qa0]at e
 | .dct _ _::_,_,_,e,_=>by simp [qa0]at e
 | .obj _ _ _::_,_,_,e,_=>by simp [qa0]at e
theorem qld {w:Wd} {H:Hp}:∀ {ds:List D} {vs:List V} {ns:List Str},strsOf ds=some ns→qb w H ds vs→vs=ns.map V.str
 | [],_,_,e,r=>by cases e;exact r
 | .str i::ds,_,_,e,⟨v,u,e1,h,t⟩=>by
   simp only [strsOf,Option.map_eq_some_iff]at e
   obtain ⟨ns,e2,rfl⟩:=e
   rw[e1,qld e2 t,show v=.str i from h]
   rfl
 | .non::_,_,_,e,_=>by simp [strsOf]at e
 | .int _::_,_,_,e,_=>by simp [strsOf]at e
 | .bl _::_,_,_,e,_=>by simp [strsOf]at e
 | .ty _::_,_,_,e,_=>by simp [strsOf]at e
 | .at_ _::_,_,_,e,_=>by simp [strsOf]at e
 | .ref _::_,_,_,e,_=>by simp [strsOf]at e
 | .lst _::_,_,_,e,_=>by simp [strsOf]at e
 | .tup _::_,_,_,e,_=>by simp [strsOf]at e
 | .dct _ _::_,_,_,e,_=>by simp [strsOf]at e
 | .obj _ _ _::_,_,_,e,_=>by simp [strsOf]at e
noncomputable def qbs (f:List D→M D):List D→M D
 | [d]=>fun S=>match look d S with
   | .lst xs=>f xs S
   | _=>M.fail S
 | _=>M.fail
theorem qle {w:Wd} {H:Hp} {S:Sto} {f:List D→M D} {ds:List D} {vs:List V} {Q:VK} (h:qe w H S) (rv:qb w H ds vs) (q:Wp E w H (qbs f ds S) (PV Q)):∃ p us xs,vs=[.ref p]∧H p=some (.lst us)∧qb w H xs us∧Wp E w H (f xs S) (PV Q):=by
 unfold qbs at q
 split at q
 case h_2=>exact False.elim q
 case h_1 d =>
   obtain ⟨v,rfl,r⟩:=rv.one_
   cases e1:look d S <;> rw[e1]at q <;> first | exact False.elim q | skip
   obtain ⟨p,vs,rfl,hp,hvs⟩:=qj h r e1
   exact⟨p,vs,_,rfl,hp,hvs,q⟩
noncomputable def qm8 (xs:List D):M D:=match intsOf xs with
 | some ns=>M.pure (.int ns.sum)
 | none=>M.fail
noncomputable def qm9 (xs:List D):M D:=match qa0 xs with
 | some ns=>M.pure (.bl (ns.all id))
 | none=>M.fail
noncomputable def qr2 (xs:List D):M D:=match qa0 xs with
 | some ns=>M.pure (.bl (ns.any id))
 | none=>M.fail
theorem q7d (hc:X.calm=true):qc9 X (.builtin "sum") (qbs qm8):=by
 refine⟨_,qzb hc,fun E w H S ds vs Q h rv q=> ?_⟩
 obtain ⟨p,us,xs,rfl,hp,r,q⟩:=qle h rv q
 unfold qm8 at q
 cases e:intsOf xs with
 | none=>rw[e]at q;exact False.elim q
 | some ns=>rw[e]at q;exact⟨p,ns,rfl,by rw[← qbn e r];exact SqL.of hp,now h (d:=.int _) rfl q⟩
theorem q7e (hc:X.calm=true):qc9 X (.builtin "all") (qbs qm9):=by
 refine⟨_,qy9 hc,fun E w H S ds vs Q h rv q=> ?_⟩
 obtain ⟨p,us,xs,rfl,hp,r,q⟩:=qle h rv q
 unfold qm9 at q
 cases e:qa0 xs with
 | none=>rw[e]at q;exact False.elim q
 | some ns=>rw[e]at q;exact⟨p,ns,rfl,by rw[← qii e r];exact SqL.of hp,now h (d:=.bl _) rfl q⟩
theorem q7f (hc:X.calm=true):qc9 X (.builtin "any") (qbs qr2):=by
 refine⟨_,qza hc,fun E w H S ds vs Q h rv q=> ?_⟩
 obtain ⟨p,us,xs,rfl,hp,r,q⟩:=qle h rv q
 unfold qr2 at q
 cases e:qa0 xs with
 | none=>rw[e]at q;exact False.elim q
 | some ns=>rw[e]at q;exact⟨p,ns,rfl,by rw[← qii e r];exact SqL.of hp,now h (d:=.bl _) rfl q⟩
noncomputable def qf9:List Int→Int
 | []=>0
 | [a]=>a
 | a::r=>min a (qf9 r)
theorem qlf:∀ {ns:List Int},ns ≠ []→qf9 ns ∈ ns∧∀ a ∈ ns,qf9 ns≤a
 | [],h=>absurd rfl h
 | [a],_=>by simp [qf9]
 | a ::b::r,_=>by
   have:=qlf (ns:=b::r) (by simp)
   rw[qf9]
   · refine⟨?_,fun x hx=> ?_⟩
     · by_cases h:a≤qf9 (b::r)
       · rw[Int.min_eq_left h];exact List.mem_cons_self
       · rw[Int.min_eq_right (by omega)];exact List.mem_cons_of_mem _ this.1
     · rcases List.mem_cons.mp hx with rfl | hx
       · exact Int.min_le_left _ _
       · exact Int.le_trans (Int.min_le_right _ _) (this.2 x hx)
   · simp
noncomputable def minD (ds:List D):M D:=match ds with
 | [.int i,.int j]=>M.pure (.int (if j < i then j else i))
 | [d]=>fun S=>match look d S with
   | .lst xs=>match intsOf xs with
     | some ns=>(if !ns.isEmpty then M.pure (.int (qf9 ns))else M.fail) S
     | none=>M.fail S
   | _=>M.fail S
 | _=>M.fail
theorem q7g (hc:X.calm=true):qc9 X (.builtin "min") minD:=by
 refine⟨_,(qw5 hc).or (qxi hc),fun E w H S ds vs Q h rv q=> ?_⟩
 unfold minD at q
 split at q
 case h_1 i j =>
   obtain ⟨v,v',rfl,r1,r2⟩:=rv.two_
   exact .inl ⟨i,j,by rw[show v=.int i from r1,show v'=.int j from r2],now h (d:=.int _) rfl q⟩
 case h_2 d =>
   obtain ⟨v,rfl,r⟩:=rv.one_
   dsimp only at q
   cases e1:look d S <;> rw[e1]at q <;> first | exact False.elim q | skip
   rename_i xs
   dsimp only at q
   cases e:intsOf xs with
   | none=>rw[e]at q;exact False.elim q
   | some ns =>
     rw[e]at q
     obtain ⟨hz,q⟩:=Wp.iteF q
     obtain ⟨p,us,rfl,hp,hvs⟩:=qj h r e1
     have hne:ns ≠ []:=by rintro rfl;simp at hz
     refine .inr ⟨p,ns,rfl,by rw[← qbn e hvs];exact SqL.of hp,by cases ns <;> first | exact absurd rfl hne | simp,fun m hm hle=> ?_⟩
     have:=qlf hne
     have:m=qf9 ns:=Int.le_antisymm (hle _ this.1) (this.2 _ hm)
     rw[this]
     exact now h (d:=.int _) rfl q
 case h_3=>exact False.elim q
noncomputable def maxD (ds:List D):M D:=match ds with
 | [.int i,.int j]=>M.pure (.int (if j > i then j else i))
 | _=>M.fail
theorem q7h (hc:X.calm=true):qc9 X (.builtin "max") maxD:=by
 refine⟨_,qw4 hc,fun E w H S ds vs Q h rv q=> ?_⟩
 unfold maxD at q
 split at q
 case h_1 i j =>
   obtain ⟨v,v',rfl,r1,r2⟩:=rv.two_
   exact⟨i,j,by rw[show v=.int i from r1,show v'=.int j from r2],now h (d:=.int _) rfl q⟩
 case h_2=>exact False.elim q
noncomputable def qhl (new:Bool):List D→M D
 | [d]=>fun S=>match look d S with
   | .lst xs=>alloc new (.lst xs) S
   | .tup xs=>alloc new (.lst xs) S
   | _=>M.fail S
 | _=>M.fail
theorem q2u {new:Bool}:qc9 X (.type "list") (qhl new):=by
 refine⟨_,qhc,fun E w H S ds vs Q h rv q=> ?_⟩
 unfold qhl at q
 split at q
 case h_2=>exact False.elim q
 case h_1 d =>
   obtain ⟨v,rfl,r⟩:=rv.one_
   cases e1:look d S <;> rw[e1]at q <;> first | exact False.elim q | skip
   case lst xs =>
     obtain ⟨p,vs,rfl,hp,hvs⟩:=qj h r e1
     exact⟨p,vs,rfl,.inl (SqL.of hp),fun l hl=>qaw h hvs q hl⟩
   case tup xs =>
     obtain ⟨p,vs,rfl,hp,hvs⟩:=qaf h r e1
     exact⟨p,vs,rfl,.inr (SqT.of hp),fun l hl=>qaw h hvs q hl⟩
noncomputable def qxp:List D→M D
 | [d]=>fun S=>match look d S with
   | .lst xs=>M.pure (.tup xs) S
   | .tup xs=>M.pure (.tup xs) S
   | _=>M.fail S
 | _=>M.fail
theorem q7i:qc9 X (.type "tuple") qxp:=by
 refine⟨_,qm5,fun E w H S ds vs Q h rv q=> ?_⟩
 unfold qxp at q
 split at q
 case h_2=>exact False.elim q
 case h_1 d =>
   obtain ⟨v,rfl,r⟩:=rv.one_
   cases e1:look d S <;> rw[e1]at q <;> first | exact False.elim q | skip
   case lst xs =>
     obtain ⟨p,vs,rfl,hp,hvs⟩:=qj h r e1
     exact⟨p,vs,rfl,.inl ⟨SqL.of hp,fun l hl=>qkm h hvs q hl⟩⟩
   case tup xs =>
     obtain ⟨p,vs,rfl,hp,hvs⟩:=qaf h r e1
     have:look d S=d:=by cases d <;> first | rfl | (unfold look at e1;dsimp only at e1;split at e1 <;> cases e1)
     rw[this]at e1
     exact⟨p,vs,rfl,.inr ⟨SqT.of hp,now h (by rw[← e1];exact r) q⟩⟩
noncomputable def intD:List D→M D
 | [.int i]=>M.pure (.int i)
 | [.bl b]=>M.pure (.int (if b then 1 else 0))
 | _=>M.fail
theorem q7j:qc9 X (.type "int") intD:=by
 refine⟨_,qw6,fun E w H S ds vs Q h rv q=> ?_⟩
 unfold intD at q
 split at q
 case h_1 i=>obtain ⟨v,rfl,r⟩:=rv.one_;exact .inl ⟨i,by rw[show v=.int i from r],now h (d:=.int _) rfl q⟩
 case h_2 b=>obtain ⟨v,rfl,r⟩:=rv.one_;exact .inr ⟨b,by rw[show v=.bl b from r],now h (d:=.int _) rfl q⟩
 case h_3=>exact False.elim q
noncomputable def qxq:List D→M D
 | [.int i]=>if decide (i.natAbs.log2 < 1920)then M.pure (.str (toString i))else M.fail
 | _=>M.fail
theorem q7k:qc9 X (.type "str") qxq:=by
 refine⟨_,qpg,fun E w H S ds vs Q h rv q=> ?_⟩
 unfold qxq at q
 split at q
 case h_1 i =>
   obtain ⟨hz,q⟩:=Wp.iteF q
   obtain ⟨v,rfl,r⟩:=rv.one_;exact⟨i,by rw[show v=.int i from r],of_decide_eq_true hz,now h (d:=.str _) rfl q⟩
 case h_2=>exact False.elim q
end
inductive Fl where
 | nx | rt (d:D) | bk | ct
noncomputable abbrev MS:=Env→M (Fl × Env)
noncomputable def qca (D:Ends):Fl × Env→Sto→Wd→Hp→Prop:=fun r _ w H=>match r.1 with
 | .nx=>∀ σ,Rel w H σ r.2→D.nx σ H
 | .rt d=>∀ v,Rep w H d v→D.rt v H
 | .bk=>∀ σ,Rel w H σ r.2→D.bk σ H
 | .ct=>∀ σ,Rel w H σ r.2→D.ct σ H
noncomputable def tS (E:XW) (g:MS):TS:=fun D σ H=>∃ w Γ S,Rel w H σ Γ∧qe w H S∧Wp E w H (g Γ S) (qca D)
noncomputable def But (T:List Nat) (σ σ':St):Prop:=∀ i,i ∉ T→σ'[i]? =σ[i]?
theorem But.refl (T:List Nat) (σ:St):But T σ σ:=fun _ _=>rfl
noncomputable def tG (E:XW) (T:List Nat) (h:D→Env→M Env):TG:=fun v σ H Q=>∃ w d Γ S,Rel w H σ Γ∧qe w H S∧Rep w H d v∧Wp E w H (h d Γ S) fun Γ' _ w' H'=>∀ σ',Rel w' H' σ' Γ'→But T σ σ'→Q σ' H'
noncomputable def tGs (E:XW) (T:List Nat) (h:List D→Env→M Env):TGs:=fun vs σ H Q=>∃ w ds Γ S,Rel w H σ Γ∧qe w H S∧qb w H ds vs∧Wp E w H (h ds Γ S) fun Γ' _ w' H'=>∀ σ',Rel w' H' σ' Γ'→But T σ σ'→Q σ' H'
section
variable {X:Cx} {E:XW} {a b c e:Expr} {f g h':Env→M D} {pos:Pos} {s1 s2:MS} {st:Stmt} {rest:List Stmt}
theorem PG.mono {tg:Expr} {t t':TG} (h:PG X tg t) (k:∀ v σ H Q,t' v σ H Q→t v σ H Q):PG X tg t':=fun pins s σ H v u Q I r q=>h pins s σ H v u Q I r (k v σ H Q q)
theorem PGs.mono {tg:List Expr} {t t':TGs} (h:PGs X tg t) (k:∀ v σ H Q,t' v σ H Q→t v σ H Q):PGs X tg t':=fun pins s σ H v u Q I r q=>h pins s σ H v u Q I r (k v σ H Q q)
noncomputable def qvz:MS:=fun Γ=>M.pure (.nx,Γ)
noncomputable def seqS (g h:MS):MS:=fun Γ=>M.bind (g Γ) fun r=>match r.1 with
 | .nx=>h r.2
 | _=>M.pure r
theorem qaav:PSs X [] (tS E qvz):=PSs.mono q1r fun D σ H ⟨w,Γ,S,rel,hold,q⟩=>q _ _ (Le.refl _ _) hold σ rel
theorem q7l (h1:PS X st (tS E s1)) (h2:PSs X rest (tS E s2)):PSs X (st::rest) (tS E (seqS s1 s2)):=by
 refine PSs.mono (qrf h1 h2) fun D σ H ⟨w,Γ,S,rel,hold,q⟩=> ?_
 refine⟨w,Γ,S,rel,hold,(Wp.bind q).mono fun r S1 w1 H1 l1 h1 q1=> ?_⟩
 obtain ⟨fl,Γ1⟩:=r
 cases fl with
 | nx=>exact fun σ' rel'=>⟨w1,Γ1,S1,rel',h1,q1⟩
 | rt d=>exact fun v rv=>(q1 _ _ (Le.refl _ _) h1:qca D (.rt d,Γ1) S1 w1 H1) v rv
 | bk=>exact fun σ' rel'=>(q1 _ _ (Le.refl _ _) h1:qca D (.bk,Γ1) S1 w1 H1) σ' rel'
 | ct=>exact fun σ' rel'=>(q1 _ _ (Le.refl _ _) h1:qca D (.ct,Γ1) S1 w1 H1) σ' rel'
theorem q7m:PS X (.Pass pos) (tS E qvz):=PS.mono q1t fun D σ H ⟨w,Γ,S,rel,hold,q⟩=>q _ _ (Le.refl _ _) hold σ rel
theorem q2v:PS X (.Break pos) (tS E fun Γ=>M.pure (.bk,Γ)):=PS.mono qyh fun D σ H ⟨w,Γ,S,rel,hold,q⟩=>(q _ _ (Le.refl _ _) hold:qca D (.bk,Γ) S w H) σ rel
theorem q7n:PS X (.Continue pos) (tS E fun Γ=>M.pure (.ct,Γ)):=PS.mono qrg fun D σ H ⟨w,Γ,S,rel,hold,q⟩=>(q _ _ (Le.refl _ _) hold:qca D (.ct,Γ) S w H) σ rel
theorem q7o (he:PE X e (tD E f)) (hs:swapsWith e none pos.line X.env=pure false):PS X (.Expr e pos) (tS E fun Γ=>M.bind (f Γ) fun _=>M.pure (.nx,Γ)):=by
 refine PS.mono (q1u he hs) fun D σ H ⟨w,Γ,S,rel,hold,q⟩=> ?_
 exact qd (k:=fun _ Γ=>M.pure (Fl.nx,Γ)) rel hold q fun dx x S1 w1 H1 l1 rel1 h1 rx q1=>(q1 _ _ (Le.refl _ _) h1:qca D (.nx,Γ) S1 w1 H1) σ rel1
theorem qaaw (he:PE X e (tD E f)):PS X (.Return (some e) pos) (tS E fun Γ=>M.bind (f Γ) fun d=>M.pure (.rt d,Γ)):=by
 refine PS.mono (qyi he) fun D σ H ⟨w,Γ,S,rel,hold,q⟩=> ?_
 exact qd (k:=fun d Γ=>M.pure (Fl.rt d,Γ)) rel hold q fun dx x S1 w1 H1 l1 rel1 h1 rx q1=>(q1 _ _ (Le.refl _ _) h1:qca D (.rt dx,Γ) S1 w1 H1) x rx
theorem q7p:PS X (.Return none pos) (tS E fun Γ=>M.pure (.rt .non,Γ)):=PS.mono q1v fun D σ H ⟨w,Γ,S,rel,hold,q⟩=>(q _ _ (Le.refl _ _) hold:qca D (.rt .non,Γ) S w H) .non rfl
noncomputable def ifS (c:Env→M Bool) (g h:MS):MS:=fun Γ=>M.bind (c Γ) fun b=>if b=true then g Γ else h Γ
theorem s_if {fc:Env→M Bool} {x y:List Stmt} (hc:PT X c (tB E fc)) (h1:PSs X x (tS E s1)) (h2:PSs X y (tS E s2)):PS X (.If c x y pos) (tS E (ifS fc s1 s2)):=by
 refine PS.mono (q9h hc h1 h2) fun D σ H ⟨w,Γ,S,rel,hold,q⟩=> ?_
 refine qcy (k:=fun b Γ=>if b=true then s1 Γ else s2 Γ) rel hold q fun bb S1 w1 H1 l1 rel1 h1 q1=> ?_
 cases bb with
 | true=>exact⟨w1,Γ,S1,rel1,h1,q1⟩
 | false=>exact⟨w1,Γ,S1,rel1,h1,q1⟩
noncomputable def q7q (i:Nat) (d:D) (Γ:Env):M Env:=M.pure (Γ.set i (some d))
theorem q7r {i:Nat} {x:Str} (hN:X.N.Nodup) (hi:X.N[i]? =some x) (hx:Loc X.env.scope x) (hf:X.fn x=true∨X.env.scope.names.lookup x=some .local):PG X (.Name x pos) (tG E [i] (q7q i)):=by
 refine PG.mono (q1w hN hi hx hf) fun v σ H Q ⟨w,d,Γ,S,rel,hold,rv,q⟩=> ?_
 exact q _ _ (Le.refl _ _) hold _ (rel.set rv) fun j hj=>List.getElem?_set_ne (fun e=>hj (by simp [e]))
noncomputable def qzp:List D→Env→M Env
 | [],Γ=>M.pure Γ
 | _,_=>M.fail
noncomputable def qpq (h:D→Env→M Env) (r:List D→Env→M Env):List D→Env→M Env
 | d::ds,Γ=>M.bind (h d Γ) fun Γ'=>r ds Γ'
 | [],_=>M.fail
theorem qaax:PGs X [] (tGs E [] qzp):=by
 refine PGs.mono q1x fun vs σ H Q ⟨w,ds,Γ,S,rel,hold,rv,q⟩=> ?_
 cases ds with
 | nil=>exact⟨rv,q _ _ (Le.refl _ _) hold _ rel (But.refl _ _)⟩
 | cons d ds=>exact False.elim q
theorem q7s {es:List Expr} {T1 T2:List Nat} {hd:D→Env→M Env} {r:List D→Env→M Env} (h1:PG X e (tG E T1 hd)) (h2:PGs X es (tGs E T2 r)) (hs:(assignEach (e::es) X.env).map (·.2)=assign e X.env::(assignEach es X.env).map (·.2)):PGs X (e::es) (tGs E (T1++T2) (qpq hd r)):=by
 refine PGs.mono (qyj h1 h2 hs) fun vs σ H Q ⟨w,ds,Γ,S,rel,hold,rv,q⟩=> ?_
 cases ds with
 | nil=>exact False.elim q
 | cons d ds =>
   obtain ⟨v,u,rfl,rd,t⟩:=rv
   exact⟨v,u,rfl,w,d,Γ,S,rel,hold,rd,(Wp.bind q).mono fun Γ1 S1 w1 H1 l1 h1 q1 σ1 rel1 b1=>⟨w1,ds,Γ1,S1,rel1,h1,t.mono l1,q1.mono fun Γ2 S2 w2 H2 _ _ q2 σ2 rel2 b2=>q2 σ2 rel2 fun j hj=>(b2 j (fun z=>hj (List.mem_append_right _ z))).trans (b1 j fun z=>hj (List.mem_append_left _ z))⟩⟩
noncomputable def qum (n:Nat) (r:List D→Env→M Env) (d:D) (Γ:Env):M Env:=fun S=>match look d S with
 | .tup ds=>if ds.length=n then r ds Γ S else .no
 | .lst ds=>if ds.length=n then r ds Γ S else .no
 | _=>.no
theorem PG.or {tg:Expr} {t t':TG} (h:PG X tg t) (h':PG X tg t'):PG X tg (fun v σ H Q=>t v σ H Q∨t' v σ H Q):=fun pins s σ H v u Q I r q=>q.elim (h pins s σ H v u Q I r) (h' pins s σ H v u Q I r)
theorem qaay {es:List Expr} {k n:Nat} {T:List Nat} {r:List D→Env→M Env} (hc:X.calm=true) (h:PGs X es (tGs E T r)) (hn:(assignEach es X.env).length=n) (hst:(assignEach es X.env).findIdx? (·.1)=none):PG X (.Tuple es k pos) (tG E T (qum n r)):=by
 refine PG.mono (PG.or (q5i hc h hn hst) (q2m hc h hn hst)) fun v σ H Q ⟨w,d,Γ,S,rel,hold,rv,q⟩=> ?_
 unfold qum at q
 cases e1:look d S <;> rw[e1]at q <;> first | exact False.elim q | skip
 case tup ds =>
   dsimp only at q
   by_cases hl:ds.length=n
   · rw[if_pos hl]at q
     obtain ⟨p,vs,rfl,hp,hvs⟩:=qaf hold rv e1
     exact .inl ⟨p,vs,rfl,SqT.of hp,by rw[← hvs.length];exact hl,w,ds,Γ,S,rel,hold,hvs,q⟩
   · rw[if_neg hl]at q;exact False.elim q
 case lst ds =>
   dsimp only at q
   by_cases hl:ds.length=n
   · rw[if_pos hl]at q
     obtain ⟨p,vs,rfl,hp,hvs⟩:=qj hold rv e1
     exact .inr ⟨p,vs,rfl,SqL.of hp,by rw[← hvs.length];exact hl,w,ds,Γ,S,rel,hold,hvs,q⟩
   · rw[if_neg hl]at q;exact False.elim q
theorem qaaz {tg:Expr} {T:List Nat} {hd:D→Env→M Env} (he:PE X e (tD E f)) (hg:PG X tg (tG E T hd)) (hs:swapsWithSole [tg] e pos.line X.env=pure false) (hw:swappedStores [tg] e X.env=pure none) (h1:(assignEach [tg] X.env).map (·.2)=[assign tg X.env]):PS X (.Assign [tg] e pos) (tS E fun Γ=>M.bind (f Γ) fun d=>M.bind (hd d Γ) fun Γ'=>M.pure (.nx,Γ')):=by
 refine PS.mono (q5k he hg hs hw h1) fun D σ H ⟨w,Γ,S,rel,hold,q⟩=> ?_
 refine qd (k:=fun d Γ=>M.bind (hd d Γ) fun Γ'=>M.pure (Fl.nx,Γ')) rel hold q fun dx x S1 w1 H1 l1 rel1 h1 rx q1=> ?_
 exact⟨w1,dx,Γ,S1,rel1,h1,rx,(Wp.bind q1).mono fun Γ2 S2 w2 H2 l2 h2 q2 σ' rel' _=>(q2 _ _ (Le.refl _ _) h2:qca D (.nx,Γ2) S2 w2 H2) σ' rel'⟩
theorem qzq {i:Nat} {x:Str} {pos':Pos} (hN:X.N.Nodup) (hi:X.N[i]? =some x) (hx:Loc X.env.scope x) (he:PE X e (tD E f)) (hs:swapsWith e (some (.Name x pos')) pos.line X.env=pure false) (hf:X.fn x=true∨X.env.scope.names.lookup x=some .local) :
   PS X (.Assign [.Name x pos'] e pos) (tS E fun Γ=>M.bind (f Γ) fun d=>M.pure (.nx,Γ.set i (some d))):=by
 refine PS.mono (qyk hN hi hx he hs hf) fun D σ H ⟨w,Γ,S,rel,hold,q⟩=> ?_
 exact qd (k:=fun d Γ=>M.pure (Fl.nx,Γ.set i (some d))) rel hold q fun dx x S1 w1 H1 l1 rel1 h1 rx q1=>(q1 _ _ (Le.refl _ _) h1:qca D (.nx,_) S1 w1 H1) _ (rel1.set rx)
noncomputable def parS (i j:Nat) (fs:Env→M (List D)):MS:=fun Γ=>M.bind (fs Γ) fun ds=>match ds with
 | [x,y]=>M.pure (.nx,(Γ.set i (some x)).set j (some y))
 | _=>M.fail
theorem qaa1 {i j:Nat} {x y:Str} {fs:Env→M (List D)} {px py pt:Pos} {kt k2:Nat} {pt2:Pos} (hc:X.calm=true) (hN:X.N.Nodup) (hi:X.N[i]? =some x) (hj:X.N[j]? =some y) (hij:i ≠ j)
   (hx:X.env.scope.names.lookup x=some .local) (hy:X.env.scope.names.lookup y=some .local) (ha:PA X [a,b] (tL E fs))
   (hw:swappedStores [.Tuple [.Name x px,.Name y py] kt pt] (.Tuple [a,b] k2 pt2) X.env=pure (some [x,y]))
   (hs:swapsWithSole [.Tuple [.Name x px,.Name y py] kt pt] (.Tuple [a,b] k2 pt2) pos.line X.env=pure false) :
   PS X (.Assign [.Tuple [.Name x px,.Name y py] kt pt] (.Tuple [a,b] k2 pt2) pos) (tS E (parS i j fs)):=by
 refine PS.mono (q5l hc hN hi hj hij hx hy ha hw hs) fun D σ H ⟨w,Γ,S,rel,hold,q⟩=> ?_
 refine qbw (k:=fun ds Γ=>match ds with | [x,y]=>M.pure (Fl.nx,(Γ.set i (some x)).set j (some y)) | _=>M.fail) rel hold q fun ds vs S1 w1 H1 l1 rel1 h1 rv q1=> ?_
 match ds,rv,q1 with
 | [],_,q1=>exact False.elim q1
 | [_],_,q1=>exact False.elim q1
 | _::_::_::_,_,q1=>exact False.elim q1
 | [d,d'],rv,q1 =>
   obtain ⟨v,v',rfl,r1,r2⟩:=rv.two_
   exact⟨v,v',rfl,(q1 _ _ (Le.refl _ _) h1:qca D (.nx,_) S1 w1 H1) _ ((rel1.set r1).set r2)⟩
noncomputable def qbg (ks:List Key) (k:Key):List Key:=if qfb ks k then ks else ks++[k]
noncomputable def qd1 {α:Type} (k:Key) (v:α):List Key→List α→List α
 | j::ks,x::xs=>(if j=k then v else x)::qd1 k v ks xs
 | _,_=>[]
noncomputable def qax {α:Type} (ks:List Key) (xs:List α) (k:Key) (v:α):List α:=if qfb ks k then qd1 k v ks xs else xs++[v]
theorem qij {α:Type} (k:Key) (v:α):∀ {ks:List Key} {xs:List α},ks.length=xs.length→(qd1 k v ks xs).length=ks.length
 | [],[],_=>rfl
 | [],_::_,h=>by simp at h
 | _::_,[],h=>by simp at h
 | j::ks,x::xs,h=>by simp [qd1,qij k v (ks:=ks) (xs:=xs) (by simpa using h)]
theorem qxr {α:Type} (k:Key) (v:α) {ks:List Key} {xs:List α} (h:ks.length=xs.length):(qbg ks k).length=(qax ks xs k v).length:=by
 unfold qbg qax
 cases qfb ks k with
 | true=>simp [qij k v h]
 | false=>simp [h]
theorem qon (k:Key) (v:V):∀ {ks:List Key} {vs:List V},ks.length=vs.length→((ks.zip vs).map fun kv=>if kv.1=k then (kv.1,v)else kv)=ks.zip (qd1 k v ks vs)
 | [],[],_=>rfl
 | [],_::_,h=>by simp at h
 | _::_,[],h=>by simp at h
 | j::ks,x::xs,h=>by
   rw[List.zip_cons_cons,List.map_cons,qon k v (by simpa using h),qd1,List.zip_cons_cons]
   by_cases e:j=k <;> simp [e]
theorem qv0 (k:Key):∀ {ks:List Key} {vs:List V},ks.length=vs.length→((ks.zip vs).any fun kv=>decide (kv.1=k))=qfb ks k
 | [],[],_=>rfl
 | [],_::_,h=>by simp at h
 | _::_,[],h=>by simp at h
 | j::ks,x::xs,h=>by
   have:=qv0 k (ks:=ks) (vs:=xs) (by simpa using h)
   unfold qfb at this ⊢
   rw[List.zip_cons_cons,List.any_cons,List.any_cons,this]
theorem qr3 (k:Key) (v:V) {ks:List Key} {vs:List V} (h:ks.length=vs.length):putK (ks.zip vs) k v=(qbg ks k).zip (qax ks vs k v):=by
 unfold putK qbg qax
 rw[qv0 k h]
 cases qfb ks k with
 | true=>rw[if_pos rfl,if_pos rfl,if_pos rfl];exact qon k v h
 | false =>
   rw[if_neg Bool.false_ne_true,if_neg Bool.false_ne_true,if_neg Bool.false_ne_true,List.zip_append h]
   rfl
theorem qoo {w:Wd} {H:Hp} {k:Key} {d:D} {v:V} (r:Rep w H d v):∀ {ks:List Key} {xs:List D} {vs:List V},qb w H xs vs→qb w H (qd1 k d ks xs) (qd1 k v ks vs)
 | [],xs,vs,_=>by cases xs <;> cases vs <;> rfl
 | _::_,[],vs,h=>by cases (show vs=[] from h);rfl
 | j::ks,x::xs,vs,⟨u,s,e,h,t⟩=>by
   subst e
   refine⟨_,_,rfl,?_,qoo r t⟩
   by_cases e:j=k
   · simp only [e,if_true];exact r
   · simp only [e,if_false];exact h
theorem qop {w:Wd} {H:Hp} {k:Key} {d:D} {v:V} (r:Rep w H d v) {ks:List Key} {xs:List D} {vs:List V} (h:qb w H xs vs):qb w H (qax ks xs k d) (qax ks vs k v):=by
 unfold qax
 cases qfb ks k with
 | true=>exact qoo r h
 | false=>exact h.append (qb.one r)
noncomputable def setM (o i v:D):M Unit:=fun S=>match o with
 | .ref l=>match S[l]? with
   | some (.lst xs)=>match i with
     | .int k=>match ixN xs.length k with
       | some j=>.ok () (S.set l (.lst (xs.set j v)))
       | none=>.no
     | _=>.no
   | some (.dct ks xs)=>match keyOf i with
     | some k=>if ks.length < sizeLine then .ok () (S.set l (.dct (qbg ks k) (qax ks xs k v)))else .no
     | none=>.no
   | _=>.no
 | _=>.no
theorem qm2.or {t t':qt8} (h:qm2 X t) (h':qm2 X t'):qm2 X (fun o i v H Q=>t o i v H Q∨t' o i v H Q):=fun pins s σ H o i v ov iv u Q I r1 r2 r3 q=>q.elim (h pins s σ H o i v ov iv u Q I r1 r2 r3) (h' pins s σ H o i v ov iv u Q I r1 r2 r3)
noncomputable def qv1:qt8:=fun o i v H Q=>∃ a H',o=.ref a∧qzc H a i v H'∧Q H'
theorem qv2 (hu:X.A.units+1 < cLine):qm2 X qv1:=by
 intro pins s σ H o i v ov iv u Q I r1 r2 r3 h
 obtain ⟨a,H',rfl,g,q⟩:=h
 cases (show ov=Value.ref a from r1)
 exact qxh hu I g r2 r3 fun s' I'=>⟨H',I',q⟩
theorem qik {w:Wd} {H:Hp} {d:D} {v:V} {k:Key} (r:Rep w H d v) (e:keyOf d=some k):v=kV k:=by
 cases d <;> simp only [keyOf]at e <;> first | (cases e;done) | (cases e;exact r)
theorem qzr {w:Wd} {H:Hp} {S:Sto} {o i v:D} {ov iv vv:V} {P:Unit→Sto→Wd→Hp→Prop} {Q:Hp→Prop} (h:qe w H S) (ro:Rep w H o ov) (ri:Rep w H i iv) (rv:Rep w H v vv) (q:Wp E w H (setM o i v S) P)
   (hk:∀ S' H',Le w H w H'→qe w H' S'→P () S' w H'→Q H'):q4j ov iv vv H Q∨qv1 ov iv vv H Q:=by
 unfold setM at q
 cases o <;> first | exact False.elim q | skip
 rename_i l
 dsimp only at q
 obtain ⟨a,ea,rfl⟩:=ro
 cases e:S[l]? with
 | none=>rw[e]at q;exact False.elim q
 | some c =>
   rw[e]at q
   have ce:=h.cell l a c ea e
   cases c with
   | gone=>exact False.elim q
   | obj _ _ _=>exact False.elim q
   | lst xs =>
     dsimp only at q
     cases i <;> first | exact False.elim q | skip
     rename_i k
     dsimp only at q
     cases e2:ixN xs.length k with
     | none=>rw[e2]at q;exact False.elim q
     | some j =>
       rw[e2]at q
       obtain ⟨nz,vs,ha,hvs⟩:=ce
       have hw:qe w (upd H a (.lst (vs.set j vv))) (S.set l (.lst (xs.set j v))):=qgi h ea nz ⟨nz,_,qi,(hvs.set rv j).mono (qbh nz)⟩
       exact .inl ⟨a,vs,k,j,rfl,ri,ha,by rw[← hvs.length];exact e2,hk _ _ (qbh nz) hw (q _ _ (qbh nz) hw)⟩
   | dct ks xs =>
     dsimp only at q
     cases e2:keyOf i with
     | none=>rw[e2]at q;exact False.elim q
     | some k =>
       rw[e2]at q
       dsimp only at q
       by_cases hz:ks.length < sizeLine
       · rw[if_pos hz]at q
         obtain ⟨nz,vs,ha,hl,hvs⟩:=ce
         have hl2:ks.length=vs.length:=by rw[hl,hvs.length]
         have hw:qe w (upd H a (.dK ((qbg ks k).zip (qax ks vs k vv)))) (S.set l (.dct (qbg ks k) (qax ks xs k v))):=qgi h ea nz ⟨nz,_,qi,qxr k v hl,(qop rv hvs).mono (qbh nz)⟩
         refine .inr ⟨a,_,rfl,?_,hk _ _ (qbh nz) hw (q _ _ (qbh nz) hw)⟩
         rw[← qr3 k vv hl2,qik ri e2]
         exact qzc.k ha (by rw[List.length_zip,← hl2,Nat.min_self];exact hz)
       · rw[if_neg hz]at q;exact False.elim q
noncomputable def q7t (f g:Env→M D) (d:D) (Γ:Env):M Env:=M.bind (f Γ) fun o=>M.bind (g Γ) fun i=>M.bind (setM o i d) fun _=>M.pure Γ
theorem qaa2 {o i:Expr} (hu:X.A.units+1 < cLine) (ho:PE X o (tD E f)) (hi:PE X i (tD E g)) (ha:∀ v,assign (.Subscript o i pos) X.env v=(do
     let ov ← holding [v] (eval o X.env)
     let iv ← holding [v,ov] (eval i X.env)
     standAt pos
     holding [v,ov,iv] (setItem ov iv v)
     release [v,ov,iv] [])):PG X (.Subscript o i pos) (tG E [] (q7t f g)):=by
 refine PG.mono (q5j ho hi (qm2.or set_list (qv2 hu)) ha) fun v σ H Q ⟨w,d,Γ,S,rel,hold,rv,q⟩=> ?_
 refine qd (k:=fun o Γ=>M.bind (g Γ) fun i=>M.bind (setM o i d) fun _=>M.pure Γ) rel hold q fun dx x S1 w1 H1 l1 rel1 h1 rx q1=> ?_
 refine qd (k:=fun i Γ=>M.bind (setM dx i d) fun _=>M.pure Γ) rel1 h1 q1 fun dy y S2 w2 H2 l2 rel2 h2 ry q2=> ?_
 exact qzr h2 (rx.mono l2) ry (rv.mono (l1.trans l2)) (Wp.bind q2) fun S3 H3 l3 h3 q3=>q3 _ _ (Le.refl _ _) h3 _ (rel2.mono l3) (But.refl _ _)
noncomputable def ipD (op:Operator):D→D→M D:=match op with
 | .Add=>fun x y=>match x,y with
   | .int i,.int j=>M.pure (.int (i+j))
   | _,_=>M.fail
 | .Sub=>qxk
 | _=>fun _ _=>M.fail
noncomputable def IpT (X:Cx) (op:Operator) (h:D→D→M D):Prop:=∃ r:TIp,PIp X op r∧∀ (E:XW) w H S dx dy x y Q,qe w H S→Rep w H dx x→Rep w H dy y→Wp E w H (h dx dy S) (PV Q)→r x y H Q
theorem qfg {op:Operator}:IpT X op (fun _ _=>M.fail):=⟨fun _ _ _ _=>False,fun _ _ _ _ _ _ _ _ _ _ _ _ h=>False.elim h,fun _ _ _ _ _ _ _ _ _ _ _ _ q=>False.elim q⟩
theorem q2w:IpT X .Add (ipD .Add):=by
 refine⟨_,q5n,fun E w H S dx dy x y Q h rx ry q=> ?_⟩
 cases dx <;> first | exact False.elim q | skip
 cases dy <;> first | exact False.elim q | skip
 exact⟨_,_,rx,ry,now h (d:=.int _) rfl q⟩
theorem q2x:IpT X .Sub (ipD .Sub):=by
 refine⟨_,q5o,fun E w H S dx dy x y Q h rx ry q=> ?_⟩
 cases dx <;> first | exact False.elim q | skip
 cases dy <;> first | exact False.elim q | skip
 exact⟨_,_,rx,ry,now h (d:=.int _) rfl q⟩
theorem q4p:∀ op:Operator,IpT X op (ipD op)
 | .Add=>q2w
 | .Sub=>q2x
 | .Mult=>qfg
 | .FloorDiv=>qfg
 | .Mod=>qfg
 | .Pow=>qfg
 | .MatMult=>qfg
 | .Div=>qfg
 | .LShift=>qfg
 | .RShift=>qfg
 | .BitOr=>qfg
 | .BitXor=>qfg
 | .BitAnd=>qfg
noncomputable def q7u (op:Operator) (i:Nat) (f:Env→M D):MS:=fun Γ=>M.bind (qfd i Γ) fun x=>M.bind (f Γ) fun y=>M.bind (ipD op x y) fun z=>M.pure (.nx,Γ.set i (some z))
theorem qaa3 {op:Operator} {i:Nat} {x:Str} {pos':Pos} (hN:X.N.Nodup) (hi:X.N[i]? =some x) (hx:Loc X.env.scope x) (he:PE X e (tD E f)) (hf:X.fn x=true∨X.env.scope.names.lookup x=some .local):PS X (.AugAssign (.Name x pos') op e pos) (tS E (q7u op i f)):=by
 obtain ⟨r,ho,hk⟩:=q4p (X:=X) op
 refine PS.mono (q5m hN hi hx he ho hf) fun D σ H ⟨w,Γ,S,rel,hold,q⟩=> ?_
 unfold q7u qfd at q
 cases e1:Γ[i]? with
 | none=>rw[e1]at q;exact False.elim q
 | some o =>
   cases o with
   | none=>rw[e1]at q;exact False.elim q
   | some d =>
     rw[e1]at q
     obtain ⟨v,ev,rv⟩:=rel.at_ i d e1
     refine⟨v,ev,qd (k:=fun y Γ=>M.bind (ipD op d y) fun z=>M.pure (Fl.nx,Γ.set i (some z))) rel hold q fun dx x S1 w1 H1 l1 rel1 h1 rx q1=> ?_⟩
     exact hk E w1 H1 S1 d dx v x _ h1 (rv.mono l1) rx ((Wp.bind q1).mono fun z S2 w2 H2 l2 h2 q2 u ru=>(q2 _ _ (Le.refl _ _) h2:qca D (.nx,_) S2 w2 H2) _ ((rel1.mono l2).set ru))
theorem qrh.or {t t':V→V→Hp→VK→Prop} (h:qrh X t) (h':qrh X t'):qrh X (fun o i H Q=>t o i H Q∨t' o i H Q):=fun pins s σ H o i ov iv Q I r1 r2 q=>q.elim (h pins s σ H o i ov iv Q I r1 r2) (h' pins s σ H o i ov iv Q I r1 r2)
theorem q2y (hu:X.A.units+1 < cLine):qrh X (fun x y H Q=>∃ a v,x=.ref a∧qk7 H a y (some v)∧Q v H):=by
 intro pins s σ H o i ov iv Q I r1 r2 h
 obtain ⟨a,v,rfl,g,q⟩:=h
 cases (show ov=Value.ref a from r1)
 exact qoi hu I g r2 fun w' s' I' rw'=>⟨v,H,I',rw',q⟩
noncomputable def ixW (o i:D):M D:=match o with
 | .ref l=>fun S=>ixM (look (.ref l) S) i S
 | _=>M.fail
noncomputable def augIx (op:Operator) (f g h:Env→M D):MS:=fun Γ=>M.bind (f Γ) fun o=>M.bind (g Γ) fun i=>M.bind (ixW o i) fun x=>M.bind (h Γ) fun y=>M.bind (ipD op x y) fun z=>M.bind (setM o i z) fun _=>M.pure (.nx,Γ)
theorem q7v {w:Wd} {H:Hp} {S:Sto} {o i:D} {ov iv:V} {Q:VK} (h:qe w H S) (ro:Rep w H o ov) (ri:Rep w H i iv) (q:Wp E w H (ixW o i S) (PV Q)):q55 X.K ov iv H Q∨∃ a v,ov=.ref a∧qk7 H a iv (some v)∧Q v H:=by
 unfold ixW at q
 cases o <;> first | exact False.elim q | skip
 rename_i l
 dsimp only at q
 unfold ixM at q
 cases e1:look (.ref l) S <;> rw[e1]at q <;> first | exact False.elim q | skip
 case lst xs =>
   cases i <;> first | exact False.elim q | skip
   rename_i i
   dsimp only at q
   cases e:atI xs i with
   | none=>rw[e]at q;exact False.elim q
   | some d =>
     rw[e]at q
     obtain ⟨p,vs,rfl,hp,hvs⟩:=qj h ro e1
     obtain ⟨v,e',rv⟩:=qpp hvs e
     exact .inl ⟨p,vs,i,v,rfl,ri,SqL.of hp,e',now h rv q⟩
 case tup xs =>
   unfold look at e1
   dsimp only at e1
   split at e1 <;> cases e1
 case str z =>
   unfold look at e1
   dsimp only at e1
   split at e1 <;> cases e1
 case dct ks ds =>
   dsimp only at q
   cases e:keyOf i with
   | none=>rw[e]at q;exact False.elim q
   | some j =>
     rw[e]at q
     dsimp only at q
     cases e2:qfe ks ds j with
     | none=>rw[e2]at q;exact False.elim q
     | some d =>
       rw[e2]at q
       obtain ⟨p,vs,rfl,hp,hl,hvs⟩:=qc7 h ro e1
       obtain ⟨v,e',rv⟩:=qlc hvs e2
       refine .inr ⟨p,v,rfl,?_,now h rv q⟩
       rw[qik ri e,← e']
       exact qpo hp
theorem q2z {op:Operator} {o i:Expr} {tpos:Pos} (hu:X.A.units+1 < cLine) (ho:PE X o (tD E f)) (hi:PE X i (tD E g)) (he:PE X e (tD E h'))
   (ha:∀ ov iv new,augStore i ov iv new=(do holding [new,ov,iv] (setItem ov iv new);release [new,ov,iv] [];pure .next)):PS X (.AugAssign (.Subscript o i tpos) op e pos) (tS E (augIx op f g h')):=by
 obtain ⟨r,hop,hk⟩:=q4p (X:=X) op
 refine PS.mono (q1z ho hi (qrh.or qy4 (q2y hu)) he hop (qm2.or set_list (qv2 hu)) ha) fun D σ H ⟨w,Γ,S,rel,hold,q⟩=> ?_
 refine qd (k:=fun o Γ=>M.bind (g Γ) fun i=>M.bind (ixW o i) fun x=>M.bind (h' Γ) fun y=>M.bind (ipD op x y) fun z=>M.bind (setM o i z) fun _=>M.pure (Fl.nx,Γ)) rel hold q fun dx x S1 w1 H1 l1 rel1 h1 rx q1=> ?_
 refine qd (k:=fun i Γ=>M.bind (ixW dx i) fun x=>M.bind (h' Γ) fun y=>M.bind (ipD op x y) fun z=>M.bind (setM dx i z) fun _=>M.pure (Fl.nx,Γ)) rel1 h1 q1 fun dy y S2 w2 H2 l2 rel2 h2 ry q2=> ?_
 refine q7v (X:=X) (E:=E) h2 (rx.mono l2) ry ((Wp.bind q2).mono fun dz S3 w3 H3 l3 h3 q3 z rz=> ?_)
 refine qd (k:=fun y Γ=>M.bind (ipD op dz y) fun z=>M.bind (setM dx dy z) fun _=>M.pure (Fl.nx,Γ)) (rel2.mono l3) h3 q3 fun du u S4 w4 H4 l4 rel4 h4 ru q4=> ?_
 refine hk E w4 H4 S4 dz du z u _ h4 (rz.mono l4) ru ((Wp.bind q4).mono fun dn S5 w5 H5 l5 h5 q5 n rn=> ?_)
 exact qzr h5 (rx.mono (l2.trans (l3.trans (l4.trans l5)))) (ry.mono (l3.trans (l4.trans l5))) rn (Wp.bind q5) fun S6 H6 l6 h6 q6=>(q6 _ _ (Le.refl _ _) h6:qca D (.nx,Γ) S6 w5 H6) σ ((rel4.mono l5).mono l6)
end
noncomputable abbrev Src:=List (Nat × Cell)
noncomputable def q8 (src:Src) (S:Sto):Prop:=∀ p ∈ src,S[p.1]? =some p.2
noncomputable def guard (src:Src):M Unit:=fun S=> @ite _ (q8 src S) (Classical.propDecidable _) (.ok () S) .no
theorem qr4 {src:Src} {S:Sto} (h:q8 src S):guard src S=.ok () S:=by unfold guard;exact if_pos h
theorem qa2 {E:XW} {α:Type} {w:Wd} {H:Hp} {src:Src} {S:Sto} {k:M α} {P:α→Sto→Wd→Hp→Prop} (q:Wp E w H (M.bind (guard src) (fun _=>k) S) P):q8 src S∧Wp E w H (k S) P:=by
 unfold M.bind guard at q
 by_cases h:q8 src S
 · rw[if_pos h]at q;exact⟨h,q⟩
 · rw[if_neg h]at q;exact False.elim q
structure Walks (J:It) (w:Wd) (H:Hp) (src:Src) (items:List D):Prop where
 go:∀ w' H' S' (i:Nat),Le w H w' H'→qe w' H' S'→q8 src S'→i < items.length→J.go i H'
 stop:∀ w' H' S',Le w H w' H'→qe w' H' S'→q8 src S'→J.stop items.length H'
 yld:∀ w' H' S' (i:Nat) x H'',Le w H w' H'→qe w' H' S'→q8 src S'→i < items.length→J.yld i H' x H''→∃ w'' d,items[i]? =some d∧Le w' H' w'' H''∧qe w'' H'' S'∧Rep w'' H'' d x
noncomputable abbrev MI:=Env→M (List D × Src)
noncomputable def tI (E:XW) (f:MI):TI:=fun σ H R=>∃ w Γ S,Rel w H σ Γ∧qe w H S∧Wp E w H (f Γ S) fun r _ w' H'=>∀ J,Walks J w' H' r.2 r.1→R J H'
section
variable {X:Cx} {E:XW} {a b c e tg it:Expr} {f g h':Env→M D} {pos:Pos} {s1 s2:MS} {st:Stmt} {rest:List Stmt} {fi:MI}
theorem PI.mono {t t':TI} (h:PI X tg it t) (k:∀ σ H R,t' σ H R→t σ H R):PI X tg it t':=fun pins s σ H R I q=>h pins s σ H R I (k σ H R q)
theorem PI.or {t t':TI} (h:PI X tg it t) (h':PI X tg it t'):PI X tg it (fun σ H R=>t σ H R∨t' σ H R):=fun pins s σ H R I q=>q.elim (h pins s σ H R I) (h' pins s σ H R I)
noncomputable def qm (d:D):M (List D × Src):=fun S=>match d with
 | .ref l=>match S[l]? with
   | some (.lst xs)=>.ok (xs,[(l,.lst xs)]) S
   | _=>.no
 | .lst xs=>.ok (xs,[]) S
 | .tup xs=>.ok (xs,[]) S
 | _=>.no
theorem qxs {K:PySem.W.Frag} {w:Wd} {H:Hp} {src:Src} {a:Addr} {items:List D} (h:∀ w' H' S',Le w H w' H'→qe w' H' S'→q8 src S'→∃ vs,H' a=some (.lst vs)∧qb w' H' items vs):Walks (Itl K a) w H src items:=by
 refine⟨fun w' H' S' i l hh hs hi=> ?_,fun w' H' S' l hh hs=> ?_,fun w' H' S' i x H'' l hh hs hi y=> ?_⟩
 · obtain ⟨vs,e,r⟩:=h w' H' S' l hh hs
   have hi2:i < vs.length:=by rw[← r.length];exact hi
   exact⟨vs,vs[i],SqL.of e,List.getElem?_eq_getElem hi2⟩
 · obtain ⟨vs,e,r⟩:=h w' H' S' l hh hs
   exact⟨vs,SqL.of e,by rw[r.length];exact Nat.le_refl _⟩
 · obtain ⟨vs,e,r⟩:=h w' H' S' l hh hs
   obtain ⟨rfl,y⟩:=y
   obtain ⟨d,e1,e2⟩:=r.get' (y vs (SqL.of e))
   exact⟨w',d,e1,Le.refl _ _,hh,e2⟩
theorem qxt {K:PySem.W.Frag} {w:Wd} {H:Hp} {src:Src} {a:Addr} {items:List D} (h:∀ w' H' S',Le w H w' H'→qe w' H' S'→q8 src S'→∃ vs,H' a=some (.tup vs)∧qb w' H' items vs):Walks (Itt K a) w H src items:=by
 refine⟨fun w' H' S' i l hh hs hi=> ?_,fun w' H' S' l hh hs=> ?_,fun w' H' S' i x H'' l hh hs hi y=> ?_⟩
 · obtain ⟨vs,e,r⟩:=h w' H' S' l hh hs
   have hi2:i < vs.length:=by rw[← r.length];exact hi
   exact⟨vs,vs[i],SqT.of e,List.getElem?_eq_getElem hi2⟩
 · obtain ⟨vs,e,r⟩:=h w' H' S' l hh hs
   exact⟨vs,SqT.of e,by rw[r.length];exact Nat.le_refl _⟩
 · obtain ⟨vs,e,r⟩:=h w' H' S' l hh hs
   obtain ⟨rfl,y⟩:=y
   obtain ⟨d,e1,e2⟩:=r.get' (y vs (SqT.of e))
   exact⟨w',d,e1,Le.refl _ _,hh,e2⟩
theorem qpr {w:Wd} {H:Hp} {S:Sto} {d:D} {v:V} {items:List D} {src:Src} {S':Sto} (h:qe w H S) (r:Rep w H d v) (e:qm d S=.ok (items,src) S') :
   S'=S∧((∃ a vs,v=.ref a∧H a=some (.lst vs)∧∀ w' H' S',Le w H w' H'→qe w' H' S'→q8 src S'→∃ vs,H' a=some (.lst vs)∧qb w' H' items vs) ∨
    (∃ a vs,v=.ref a∧H a=some (.tup vs)∧∀ w' H' S',Le w H w' H'→qe w' H' S'→q8 src S'→∃ vs,H' a=some (.tup vs)∧qb w' H' items vs)):=by
 unfold qm at e
 cases d <;> first | (cases e;done) | skip
 case ref l =>
   dsimp only at e
   cases q:S[l]? with
   | none=>rw[q]at e;cases e
   | some c =>
     rw[q]at e
     cases c <;> cases e
     obtain ⟨a,ea,rfl⟩:=r
     obtain ⟨_,vs,k1,_⟩:=h.cell l a _ ea q
     refine⟨rfl,.inl ⟨a,vs,rfl,k1,fun w' H' S' l' h' s'=> ?_⟩⟩
     obtain ⟨_,vs',k1',k2'⟩:=h'.cell l a _ (l'.at_ ea) (s' (l,.lst items) (by simp))
     exact⟨vs',k1',k2'⟩
 case lst xs =>
   cases e
   obtain ⟨a,vs,rfl,z,k1,k2⟩:=r
   exact⟨rfl,.inl ⟨a,vs,rfl,k1,fun w' H' S' l' _ _=>⟨vs,l'.lst z k1,k2.mono l'⟩⟩⟩
 case tup xs =>
   cases e
   obtain ⟨a,vs,rfl,z,k1,k2⟩:=r
   exact⟨rfl,.inr ⟨a,vs,rfl,k1,fun w' H' S' l' _ _=>⟨vs,l'.tup z k1,k2.mono l'⟩⟩⟩
theorem qaa4 (he:PE X it (tD E f)):PI X tg it (tI E fun Γ=>M.bind (f Γ) qm):=by
 refine PI.mono (PI.or (q10 he) (q5q he)) fun σ H R ⟨w,Γ,S,rel,hold,q⟩=> ?_
 have q:=Wp.bind q
 cases e0:f Γ S with
 | no=>rw[e0]at q;exact False.elim q
 | err x S1=>rw[e0]at q;exact .inl ⟨w,Γ,S,rel,hold,by rw[e0];exact q⟩
 | ok d S1 =>
   rw[e0]at q
   have q:∀ w' H',Le w H w' H'→qe w' H' S1→Wp E w' H' (qm d S1) _:=q
   cases e1:qm d S1 with
   | no =>
     refine .inl ⟨w,Γ,S,rel,hold,?_⟩
     rw[e0]
     intro w' H' l' h' v rv
     have:=q w' H' l' h'
     rw[e1]at this
     exact False.elim this
   | err x S2 =>
     unfold qm at e1
     cases d <;> dsimp only at e1 <;> first | (cases e1;done) | (split at e1 <;> cases e1)
   | ok r S2 =>
     obtain ⟨items,src⟩:=r
     by_cases ht:∃ xs,d=.tup xs
     · refine .inr ⟨w,Γ,S,rel,hold,?_⟩
       rw[e0]
       intro w' H' l' h' v rv
       have q2:=q w' H' l' h'
       rw[e1]at q2
       obtain ⟨rfl,k | k⟩:=qpr h' rv e1
       · obtain ⟨xs,rfl⟩:=ht
         obtain ⟨a,vs,rfl,k1,_⟩:=k
         obtain ⟨a',vs',e2,_,k2,_⟩:=rv
         cases e2
         rw[k1]at k2;cases k2
       · obtain ⟨a,vs,rfl,k1,k2⟩:=k
         exact⟨a,rfl,⟨vs,SqT.of k1⟩,q2 _ _ (Le.refl _ _) h' _ (qxt k2)⟩
     · refine .inl ⟨w,Γ,S,rel,hold,?_⟩
       rw[e0]
       intro w' H' l' h' v rv
       have q2:=q w' H' l' h'
       rw[e1]at q2
       obtain ⟨rfl,k | k⟩:=qpr h' rv e1
       · obtain ⟨a,vs,rfl,k1,k2⟩:=k
         exact⟨a,rfl,⟨vs,SqL.of k1⟩,q2 _ _ (Le.refl _ _) h' _ (qxs k2)⟩
       · exfalso
         obtain ⟨a,vs,rfl,k1,_⟩:=k
         clear q2 q e0
         cases d <;> first | (simp only [Rep]at rv;cases rv;done) | (unfold qm at e1;cases e1;done) | skip
         case ref l =>
           unfold qm at e1
           dsimp only at e1
           cases q':S2[l]? with
           | none=>rw[q']at e1;cases e1
           | some c =>
             rw[q']at e1
             cases c <;> cases e1
             obtain ⟨a',ea,e2⟩:=rv
             cases e2
             obtain ⟨_,vs',k2,_⟩:=h'.cell l a _ ea q'
             rw[k1]at k2;cases k2
         case lst =>
           obtain ⟨a',vs',e2,_,k2,_⟩:=rv
           cases e2
           rw[k1]at k2;cases k2
         case tup=>exact ht ⟨_,rfl⟩
end
section
variable {X:Cx} {E:XW} {a b c e tg it:Expr} {f g h':Env→M D} {pos p:Pos} {s1 s2:MS} {st:Stmt} {rest:List Stmt} {fi:MI} {fs:Env→M (List D)}
noncomputable def qd2 (lo:Int) (n:Nat):List D:=(List.range n).map fun k:Nat=>D.int (lo+k)
noncomputable def qhm (i:Int):Bool:=decide (-(2 ^ 62)≤i) && decide (i < 2 ^ 62)
noncomputable def qdu (ds:List D):M (List D × Src):=match ds with
 | [.int j]=>if qhm j then M.pure (qd2 0 j.toNat,[])else M.fail
 | _=>M.fail
noncomputable def qgl (ds:List D):M (List D × Src):=match ds with
 | [.int i,.int j]=>if qhm i && qhm j then M.pure (qd2 i (j - i).toNat,[])else M.fail
 | _=>M.fail
theorem qoq {w:Wd} {H:Hp} {lo:Int} {n:Nat}:Walks (Itr lo n) w H [] (qd2 lo n):=by
 have hl:(qd2 lo n).length=n:=by simp [qd2]
 refine⟨fun w' H' S' i _ _ _ hi=>by rw[hl]at hi;exact hi,fun w' H' S' _ _ _=>by rw[hl];exact Nat.le_refl _,fun w' H' S' i x H'' l hh hs hi y=> ?_⟩
 obtain ⟨rfl,rfl⟩:=y
 rw[hl]at hi
 exact⟨w',.int (lo+i),by simp [qd2,hi],Le.refl _ _,hh,rfl⟩
theorem q7w (hg:Gl X "range") (hm:X.mg "range"=none) (ha:PA X [a] (tL E fs)) (hs:starEach [a] X.env=[(false,eval a X.env)]):PI X tg (.Call (.Name "range" p) [a] [] pos) (tI E fun Γ=>M.bind (fs Γ) qdu):=by
 refine PI.mono (qw0 hg hm ha hs) fun σ H R ⟨w,Γ,S,rel,hold,q⟩=> ?_
 refine qbw (k:=fun ds _=>qdu ds) rel hold q fun ds vs S1 w1 H1 l1 rel1 h1 rv q1=> ?_
 unfold qdu at q1
 split at q1
 case h_1 j =>
   obtain ⟨hz,q1⟩:=Wp.iteF q1
   unfold qhm at hz
   rw[Bool.and_eq_true]at hz
   obtain ⟨v,rfl,r⟩:=rv.one_
   exact⟨j,by rw[show v=.int j from r],of_decide_eq_true hz.1,of_decide_eq_true hz.2,q1 _ _ (Le.refl _ _) h1 _ qoq⟩
 case h_2=>exact False.elim q1
theorem q7x (hg:Gl X "range") (hm:X.mg "range"=none) (ha:PA X [a,b] (tL E fs)) (hs:starEach [a,b] X.env=[(false,eval a X.env),(false,eval b X.env)]) (hs2:starEach [b] X.env=[(false,eval b X.env)]):PI X tg (.Call (.Name "range" p) [a,b] [] pos) (tI E fun Γ=>M.bind (fs Γ) qgl):=by
 refine PI.mono (qw1 hg hm ha hs hs2) fun σ H R ⟨w,Γ,S,rel,hold,q⟩=> ?_
 refine qbw (k:=fun ds _=>qgl ds) rel hold q fun ds vs S1 w1 H1 l1 rel1 h1 rv q1=> ?_
 unfold qgl at q1
 split at q1
 case h_1 i j =>
   obtain ⟨hz,q1⟩:=Wp.iteF q1
   unfold qhm at hz
   rw[Bool.and_eq_true,Bool.and_eq_true,Bool.and_eq_true]at hz
   obtain ⟨v,v',rfl,r,r'⟩:=rv.two_
   exact⟨i,j,by rw[show v=.int i from r,show v'=.int j from r'],⟨of_decide_eq_true hz.1.1,of_decide_eq_true hz.1.2,of_decide_eq_true hz.2.1,of_decide_eq_true hz.2.2⟩,q1 _ _ (Le.refl _ _) h1 _ qoq⟩
 case h_2=>exact False.elim q1
noncomputable def qfh (xs:List D):List D:=(List.range xs.length).map fun i:Nat=>D.tup [.int i,xs.getD i .non]
noncomputable def qcb (ds:List D):M (List D × Src):=match ds with
 | [d]=>M.bind (qm d) fun r=>match d with
   | .tup _=>M.fail
   | _=>M.pure (qfh r.1,r.2)
 | _=>M.fail
theorem qr5 {xs:List D} {i:Nat} {d:D} (h:xs[i]? =some d):(qfh xs)[i]? =some (.tup [.int i,d]):=by
 have hi:=(List.getElem?_eq_some_iff.mp h).1
 simp [qfh,hi]
 have:xs[i]=d:=by rw[List.getElem?_eq_getElem hi]at h;exact Option.some.inj h
 exact this
theorem qil (xs:List D):(qfh xs).length=xs.length:=by simp [qfh]
theorem qr6 {w:Wd} {H:Hp} {S:Sto} {p:Addr} {d d':D} {v v':V} (h:qe w H S) (hp:H p=none) (r:Rep w H d v) (r':Rep w H d' v'):Le w H (w.fix p) (upd H p (.tup [v,v']))∧qe (w.fix p) (upd H p (.tup [v,v'])) S∧Rep (w.fix p) (upd H p (.tup [v,v'])) (.tup [d,d']) (.ref p) :=
 ⟨qc4 h hp,qfa h hp,p,[v,v'],rfl,.inl rfl,qi,qb.cons (r.mono (qc4 h hp)) (qb.one (r'.mono (qc4 h hp)))⟩
theorem qun {K:PySem.W.Frag} {w:Wd} {H:Hp} {src:Src} {a:Addr} {xs:List D} (h:∀ w' H' S',Le w H w' H'→qe w' H' S'→q8 src S'→∃ vs,H' a=some (.lst vs)∧qb w' H' xs vs):Walks (Ite K a) w H src (qfh xs):=by
 refine⟨fun w' H' S' i l hh hs hi=> ?_,fun w' H' S' l hh hs=> ?_,fun w' H' S' i x H'' l hh hs hi y=> ?_⟩
 · obtain ⟨vs,e,r⟩:=h w' H' S' l hh hs
   have hi2:i < vs.length:=by rw[← r.length,← qil];exact hi
   exact⟨vs,vs[i],SqL.of e,List.getElem?_eq_getElem hi2⟩
 · obtain ⟨vs,e,r⟩:=h w' H' S' l hh hs
   exact⟨vs,SqL.of e,by rw[qil,r.length];exact Nat.le_refl _⟩
 · obtain ⟨vs,e,r⟩:=h w' H' S' l hh hs
   obtain ⟨p,z,hp,rfl,rfl,y⟩:=y
   obtain ⟨d,e1,e2⟩:=r.get' (y vs (SqL.of e))
   obtain ⟨k1,k2,k3⟩:=qr6 (d:=.int i) (v:=.int i) hh hp rfl e2
   exact⟨_,_,qr5 e1,k1,k2,k3⟩
theorem q7y {elts:List Expr} {k:Nat} {pos':Pos} (hg:Gl X "enumerate") (hm:X.mg "enumerate"=none) (ha:PA X [a] (tL E fs)) (hs:starEach [a] X.env=[(false,eval a X.env)]):PI X (.Tuple elts k pos') (.Call (.Name "enumerate" p) [a] [] pos) (tI E fun Γ=>M.bind (fs Γ) qcb):=by
 refine PI.mono (q2e hg hm ha hs) fun σ H R ⟨w,Γ,S,rel,hold,q⟩=> ?_
 refine qbw (k:=fun ds _=>qcb ds) rel hold q fun ds vs S1 w1 H1 l1 rel1 h1 rv q1=> ?_
 unfold qcb at q1
 split at q1
 case h_2=>exact False.elim q1
 case h_1 d =>
   obtain ⟨v,rfl,r⟩:=rv.one_
   replace q1:=Wp.bind q1
   cases e1:qm d S1 with
   | no=>rw[e1]at q1;exact False.elim q1
   | err x S2 =>
     unfold qm at e1
     cases d <;> dsimp only at e1 <;> first | (cases e1;done) | (split at e1 <;> cases e1)
   | ok rr S2 =>
     rw[e1]at q1
     obtain ⟨items,src⟩:=rr
     obtain ⟨rfl,k | k⟩:=qpr h1 r e1
     · obtain ⟨p,vs,rfl,k1,k2⟩:=k
       have q2:=q1 _ _ (Le.refl _ _) h1
       have:∀ xs,d ≠ .tup xs:=by
         rintro xs rfl
         obtain ⟨a',vs',e2,_,k3,_⟩:=r
         cases e2
         rw[k1]at k3;cases k3
       have q3:Wp E w1 H1 (M.pure (qfh items,src) S2) fun r x w' H'=>∀ J,Walks J w' H' r.2 r.1→R J H':=by
         cases d <;> first | exact q2 | exact absurd rfl (this _)
       exact⟨p,rfl,⟨vs,SqL.of k1⟩,q3 _ _ (Le.refl _ _) h1 _ (qun k2)⟩
     · obtain ⟨p,vs,rfl,k1,k2⟩:=k
       exfalso
       have q2:=q1 _ _ (Le.refl _ _) h1
       clear q1
       cases d <;> first | (simp only [Rep]at r;cases r;done) | (unfold qm at e1;cases e1;done) | exact False.elim q2 | skip
       case ref l =>
         unfold qm at e1
         dsimp only at e1
         cases q':S2[l]? with
         | none=>rw[q']at e1;cases e1
         | some c =>
           rw[q']at e1
           cases c <;> cases e1
           obtain ⟨a',ea,e2⟩:=r
           cases e2
           obtain ⟨_,vs',k3,_⟩:=h1.cell l p _ ea q'
           rw[k1]at k3;cases k3
       case lst =>
         obtain ⟨a',vs',e2,_,k3,_⟩:=r
         cases e2
         rw[k1]at k3;cases k3
noncomputable def qe2:List D→List D→List D
 | x::xs,y::ys=>.tup [x,y]::qe2 xs ys
 | _,_=>[]
theorem qps:∀ {xs ys:List D} {i:Nat} {d d':D},xs[i]? =some d→ys[i]? =some d'→(qe2 xs ys)[i]? =some (.tup [d,d'])
 | [],_,_,_,_,h,_=>by simp at h
 | _::_,[],_,_,_,_,h=>by simp at h
 | x::xs,y::ys,0,d,d',h,h'=>by
   simp at h h'
   subst h h'
   rfl
 | x::xs,y::ys,i+1,d,d',h,h'=>by
   rw[qe2]
   simp only [List.getElem?_cons_succ]at h h' ⊢
   exact qps h h'
theorem qlg:∀ (xs ys:List D),(qe2 xs ys).length=min xs.length ys.length
 | [],ys=>by simp [qe2]
 | _::_,[]=>by simp [qe2]
 | x::xs,y::ys=>by simp [qe2,qlg xs ys,Nat.succ_min_succ]
noncomputable def qfi (ds:List D):M (List D × Src):=match ds with
 | [d,d']=>M.bind (qm d) fun r=>M.bind (qm d') fun r'=>M.pure (qe2 r.1 r'.1,r.2++r'.2)
 | _=>M.fail
theorem q4q {w:Wd} {H:Hp} {S:Sto} {d:D} {v:V} {items:List D} {src:Src} {S':Sto} {K:PySem.W.Frag} (h:qe w H S) (r:Rep w H d v) (e:qm d S=.ok (items,src) S') :
   S'=S∧∃ (bb:Bool) (a:Addr) (vs:List V),v=.ref a∧SqS K bb H a vs∧∀ w' H' S',Le w H w' H'→qe w' H' S'→q8 src S'→∃ vs,SqS K bb H' a vs∧qb w' H' items vs:=by
 obtain ⟨rfl,k | k⟩:=qpr h r e
 · obtain ⟨a,vs,e1,e2,k⟩:=k
   exact⟨rfl,true,a,vs,e1,SqL.of e2,fun w' H' S' l h s=>let ⟨vs,e,r⟩:=k w' H' S' l h s;⟨vs,SqL.of e,r⟩⟩
 · obtain ⟨a,vs,e1,e2,k⟩:=k
   exact⟨rfl,false,a,vs,e1,SqT.of e2,fun w' H' S' l h s=>let ⟨vs,e,r⟩:=k w' H' S' l h s;⟨vs,SqT.of e,r⟩⟩
theorem qjp {d:D} {S:Sto} {x:Exn} {S':Sto}:qm d S ≠ .err x S':=fun e1=>by
 unfold qm at e1
 cases d <;> dsimp only at e1 <;> first | (cases e1;done) | (split at e1 <;> cases e1)
theorem qxu {K:PySem.W.Frag} {w:Wd} {H:Hp} {src src':Src} {b1 b2:Bool} {a a':Addr} {xs ys:List D} (h:∀ w' H' S',Le w H w' H'→qe w' H' S'→q8 src S'→∃ vs,SqS K b1 H' a vs∧qb w' H' xs vs)
   (h2:∀ w' H' S',Le w H w' H'→qe w' H' S'→q8 src' S'→∃ vs,SqS K b2 H' a' vs∧qb w' H' ys vs):Walks (Itz K b1 b2 a a') w H (src++src') (qe2 xs ys):=by
 have s1:∀ {S},q8 (src++src') S→q8 src S:=fun s p hp=>s p (List.mem_append_left _ hp)
 have s2:∀ {S},q8 (src++src') S→q8 src' S:=fun s p hp=>s p (List.mem_append_right _ hp)
 refine⟨fun w' H' S' i l hh hs hi=> ?_,fun w' H' S' l hh hs=> ?_,fun w' H' S' i x H'' l hh hs hi y=> ?_⟩
 · obtain ⟨vs,e,r⟩:=h w' H' S' l hh (s1 hs)
   obtain ⟨us,e',r'⟩:=h2 w' H' S' l hh (s2 hs)
   rw[qlg,r.length,r'.length]at hi
   exact⟨⟨vs,vs[i]'(by omega),e,List.getElem?_eq_getElem (by omega)⟩,us,us[i]'(by omega),e',List.getElem?_eq_getElem (by omega)⟩
 · obtain ⟨vs,e,r⟩:=h w' H' S' l hh (s1 hs)
   obtain ⟨us,e',r'⟩:=h2 w' H' S' l hh (s2 hs)
   exact⟨vs,us,e,e',by rw[qlg,r.length,r'.length];omega⟩
 · obtain ⟨vs,e,r⟩:=h w' H' S' l hh (s1 hs)
   obtain ⟨us,e',r'⟩:=h2 w' H' S' l hh (s2 hs)
   obtain ⟨p,z,z',hp,rfl,rfl,y,y'⟩:=y
   obtain ⟨d,e1,e2⟩:=r.get' (y vs e)
   obtain ⟨d',e1',e2'⟩:=r'.get' (y' us e')
   obtain ⟨k1,k2,k3⟩:=qr6 hh hp e2 e2'
   exact⟨_,_,qps e1 e1',k1,k2,k3⟩
theorem qaa5 {elts:List Expr} {k:Nat} {pos':Pos} (hg:Gl X "zip") (hm:X.mg "zip"=none) (ha:PA X [a,b] (tL E fs)) (hs:starEach [a,b] X.env=[(false,eval a X.env),(false,eval b X.env)]) (hs2:starEach [b] X.env=[(false,eval b X.env)]):PI X (.Tuple elts k pos') (.Call (.Name "zip" p) [a,b] [] pos) (tI E fun Γ=>M.bind (fs Γ) qfi):=by
 refine PI.mono (q6n hg hm ha hs hs2) fun σ H R ⟨w,Γ,S,rel,hold,q⟩=> ?_
 refine qbw (k:=fun ds _=>qfi ds) rel hold q fun ds vs S1 w1 H1 l1 rel1 h1 rv q1=> ?_
 unfold qfi at q1
 split at q1
 case h_2=>exact False.elim q1
 case h_1 d d' =>
   obtain ⟨v,v',rfl,r,r'⟩:=rv.two_
   replace q1:=Wp.bind q1
   cases e1:qm d S1 with
   | no=>rw[e1]at q1;exact False.elim q1
   | err x S2=>exact absurd e1 qjp
   | ok rr S2 =>
     rw[e1]at q1
     obtain ⟨items,src⟩:=rr
     obtain ⟨rfl,b1,a1,vs1,rfl,k1,k2⟩:=q4q (K:=X.K) h1 r e1
     have q2:=Wp.bind (q1 _ _ (Le.refl _ _) h1)
     cases e2:qm d' S2 with
     | no=>rw[e2]at q2;exact False.elim q2
     | err x S2=>exact absurd e2 qjp
     | ok rr' S3 =>
       rw[e2]at q2
       obtain ⟨items',src'⟩:=rr'
       obtain ⟨rfl,b2,a2,vs2,rfl,k1',k2'⟩:=q4q (K:=X.K) h1 r' e2
       exact⟨b1,b2,a1,a2,rfl,⟨vs1,k1⟩,⟨vs2,k1'⟩,q2 _ _ (Le.refl _ _) h1 _ _ (Le.refl _ _) h1 _ (qxu k2 k2')⟩
noncomputable def forL (src:Src) (hd:D→Env→M Env) (body:MS):List D→MS
 | [],Γ=>M.bind (guard src) fun _=>M.pure (.nx,Γ)
 | d::ds,Γ=>M.bind (guard src) fun _=>M.bind (hd d Γ) fun Γ1=>M.bind (body Γ1) fun r=>match r.1 with
   | .nx=>forL src hd body ds r.2
   | .ct=>forL src hd body ds r.2
   | .bk=>M.pure (.nx,r.2)
   | .rt d=>M.pure (.rt d,r.2)
noncomputable def q20 (fi:MI) (hd:D→Env→M Env) (body:MS):MS:=fun Γ=>M.bind (fi Γ) fun r=>forL r.2 hd body r.1 Γ
theorem qaa6 {T:List Nat} {hd:D→Env→M Env} {body:List Stmt} (hp:PassesOwn (model X.prog X.w) X.A X.env X.xe) (hc:X.calm=true) (hi:PI X tg it (tI E fi)) (hg:PG X tg (tG E T hd)) (hb:PSs X body (tS E s1)) (hs:∀ x,foldedSetIterable it X.env x=pure x) :
   PS X (.For tg it body [] pos) (tS E (q20 fi hd s1)):=by
 refine PS.mono (q5r hp hc hi hg hb hs) fun D σ H ⟨w,Γ,S,rel,hold,q⟩=> ?_
 refine⟨w,Γ,S,rel,hold,(Wp.bind q).mono fun r S1 w1 H1 l1 h1 q1 J wk=> ?_⟩
 obtain ⟨items,src⟩:=r
 refine⟨fun i m σ H=>m=items.length - i∧i≤items.length∧∃ w' Γ' S',Le w1 H1 w' H∧Rel w' H σ Γ'∧qe w' H S'∧Wp E w' H (forL src hd s1 (items.drop i) Γ' S') (qca D),⟨_,rfl,Nat.zero_le _,w1,Γ,S1,Le.refl _ _,rel.mono l1,h1,q1⟩,?_⟩
 rintro i m σ H ⟨rfl,hi,w2,Γ2,S2,l2,rel2,h2,q2⟩
 by_cases hlt:i < items.length
 · have hdr:items.drop i=items[i]::items.drop (i+1):=(List.drop_eq_getElem_cons hlt)
   rw[hdr,forL]at q2
   obtain ⟨so,q2⟩:=qa2 q2
   refine .inr ⟨wk.go w2 H S2 i l2 h2 so hlt,fun σ' H'=>∃ w' Γ' S',Le w1 H1 w' H'∧Rel w' H' σ' Γ'∧qe w' H' S'∧Wp E w' H' (forL src hd s1 (items.drop (i+1)) Γ' S') (qca D),fun σ' H' z=>⟨_,by omega,rfl,hlt,z⟩,fun x H' y=> ?_⟩
   obtain ⟨w3,d,e3,l3,h3,r3⟩:=wk.yld w2 H S2 i x H' l2 h2 so hlt y
   have:d=items[i]:=by rw[List.getElem?_eq_getElem hlt]at e3;exact(Option.some.inj e3).symm
   subst this
   have q3:=q2.later l3
   refine⟨w3,items[i],Γ2,S2,rel2.mono l3,h3,r3,(Wp.bind q3).mono fun Γ4 S4 w4 H4 l4 h4 q4 σ4 rel4 _=> ?_⟩
   refine⟨w4,Γ4,S4,rel4,h4,(Wp.bind q4).mono fun r5 S5 w5 H5 l5 h5 q5=> ?_⟩
   obtain ⟨fl,Γ5⟩:=r5
   have ll:=(l2.trans l3).trans (l4.trans l5)
   cases fl with
   | nx=>exact fun σ' rel'=>⟨w5,Γ5,S5,ll,rel',h5,q5⟩
   | ct=>exact fun σ' rel'=>⟨w5,Γ5,S5,ll,rel',h5,q5⟩
   | bk=>exact fun σ' rel'=>(q5 _ _ (Le.refl _ _) h5:qca D (.nx,Γ5) S5 w5 H5) σ' rel'
   | rt d=>exact fun v rv=>(q5 _ _ (Le.refl _ _) h5:qca D (.rt d,Γ5) S5 w5 H5) v rv
 · have e:i=items.length:=by omega
   subst e
   rw[List.drop_length,forL]at q2
   obtain ⟨so,q2⟩:=qa2 q2
   exact .inl ⟨wk.stop w2 H S2 l2 h2 so,(q2 _ _ (Le.refl _ _) h2:qca D (.nx,Γ2) S2 w2 H) σ rel2⟩
noncomputable def qk (c:Env→M Bool) (body:MS):Nat→MS
 | 0,_=>M.fail
 | n+1,Γ=>M.bind (c Γ) fun b=>if b=true then M.bind (body Γ) fun r=>match r.1 with
   | .nx=>qk c body n r.2
   | .ct=>qk c body n r.2
   | .bk=>M.pure (.nx,r.2)
   | .rt d=>M.pure (.rt d,r.2)else M.pure (.nx,Γ)
noncomputable def qda (c:Env→M Bool) (body:MS):MS:=fun Γ S=> @dite _ (∃ n,qk c body n Γ S ≠ .no) (Classical.propDecidable _) (fun h=>qk c body h.choose Γ S) (fun _=>.no)
theorem q21 {fc:Env→M Bool} {body:List Stmt} (hp:PassesOwn (model X.prog X.w) X.A X.env X.xe) (hc:PT X c (tB E fc)) (hb:PSs X body (tS E s1)):PS X (.While c body [] pos) (tS E (qda fc s1)):=by
 refine PS.mono (qyl hp hc hb) fun D σ H ⟨w,Γ,S,rel,hold,q⟩=> ?_
 unfold qda at q
 by_cases hn:∃ n,qk fc s1 n Γ S ≠ .no
 · rw [dif_pos hn]at q
   refine⟨fun m σ H=>∃ w' Γ' S',Rel w' H σ Γ'∧qe w' H S'∧Wp E w' H (qk fc s1 m Γ' S') (qca D),⟨_,w,Γ,S,rel,hold,q⟩,?_⟩
   rintro m σ H ⟨w2,Γ2,S2,rel2,h2,q2⟩
   cases m with
   | zero=>exact False.elim q2
   | succ m =>
     rw[qk]at q2
     refine qcy (k:=fun b Γ=>if b=true then M.bind (s1 Γ) fun r=>match r.1 with
       | .nx=>qk fc s1 m r.2
       | .ct=>qk fc s1 m r.2
       | .bk=>M.pure (.nx,r.2)
       | .rt d=>M.pure (.rt d,r.2)else M.pure (.nx,Γ)) rel2 h2 q2 fun bb S3 w3 H3 l3 rel3 h3 q3=> ?_
     cases bb with
     | true =>
       rw[if_pos rfl]
       refine⟨fun σ' H'=>∃ w' Γ' S',Rel w' H' σ' Γ'∧qe w' H' S'∧Wp E w' H' (qk fc s1 m Γ' S') (qca D),fun σ' H' z=>⟨m,by omega,z⟩,?_⟩
       refine⟨w3,Γ2,S3,rel3,h3,(Wp.bind q3).mono fun r5 S5 w5 H5 l5 h5 q5=> ?_⟩
       obtain ⟨fl,Γ5⟩:=r5
       cases fl with
       | nx=>exact fun σ' rel'=>⟨w5,Γ5,S5,rel',h5,q5⟩
       | ct=>exact fun σ' rel'=>⟨w5,Γ5,S5,rel',h5,q5⟩
       | bk=>exact fun σ' rel'=>(q5 _ _ (Le.refl _ _) h5:qca D (.nx,Γ5) S5 w5 H5) σ' rel'
       | rt d=>exact fun v rv=>(q5 _ _ (Le.refl _ _) h5:qca D (.rt d,Γ5) S5 w5 H5) v rv
     | false =>
       rw[if_neg Bool.false_ne_true]
       exact(q3 _ _ (Le.refl _ _) h3:qca D (.nx,Γ2) S3 w3 H3) σ rel3
 · rw[dif_neg hn]at q
   exact False.elim q
end
noncomputable def noErr {α:Type} (m:M α):M α:=fun S=>match m S with
 | .err _ _=>.no
 | r=>r
theorem Wp.noErr {α:Type} {E E':XW} {w:Wd} {H:Hp} {m:M α} {S:Sto} {P:α→Sto→Wd→Hp→Prop} (q:Wp E w H (noErr m S) P):Wp E' w H (m S) P:=by
 unfold T3.noErr at q
 cases e:m S with
 | ok a S'=>rw[e]at q;exact q
 | err x S'=>rw[e]at q;exact False.elim q
 | no=>rw[e]at q;exact q
noncomputable def lcA (src:Src) (n:Nat) (hd:D→Env→M Env) (cond:Env→M Bool) (elt:Env→M D) (Γ:Env):List D→List D→M (List D)
 | acc,[]=>M.bind (guard src) fun _=>M.pure acc
 | acc,d::ds=>M.bind (guard src) fun _=>M.bind (hd d (List.replicate n none++Γ)) fun Γ1=>M.bind (cond Γ1) fun b =>
   if b=true then M.bind (elt Γ1) fun y=>lcA src n hd cond elt Γ (acc++[y]) ds else lcA src n hd cond elt Γ acc ds
noncomputable def lcD (new:Bool) (n:Nat) (fi:MI) (hd:D→Env→M Env) (cond:Env→M Bool) (elt:Env→M D) (Γ:Env):M D :=
 M.bind (fi Γ) fun r=>if decide (r.1.length < sizeLine)then M.bind (noErr (lcA r.2 n hd cond elt Γ [] r.1)) fun ds=>alloc new (.lst ds)else M.fail
theorem Rel.cons {w:Wd} {H:Hp} {σ:St} {Γ:Env} (r:Rel w H σ Γ) (n:Nat):Rel w H (List.replicate n none++σ) (List.replicate n none++Γ):=by
 refine⟨by simp [r.len],fun i d e=> ?_⟩
 by_cases hi:i < n
 · rw[List.getElem?_append_left (by simpa using hi)]at e
   simp [hi]at e
 · rw[List.getElem?_append_right (by simp;omega)]at e ⊢
   simp only [List.length_replicate]at e ⊢
   exact r.at_ _ d e
theorem Rel.undrop {w:Wd} {H:Hp} {σ:St} {n:Nat} {σ2:St} {T:List Nat} {Γ2:Env} (r2:Rel w H σ2 Γ2) (hT:∀ i ∈ T,i < n) (hb:But T (List.replicate n none++σ) σ2) (hl:σ2.length=n+σ.length):σ2.drop n=σ:=by
 refine List.ext_getElem? fun i=> ?_
 rw[List.getElem?_drop,hb (n+i) (fun z=>by have:=hT _ z;omega),List.getElem?_append_right (by simp)]
 simp
section
variable {X:Cx} {E E2:XW} {tg it elt:Expr} {ifs:List Expr} {fe:Env→M D} {pos:Pos} {fi:MI} {cond:Env→M Bool} {T:List Nat} {hd:D→Env→M Env} {ts Mk:List Str} {scope:Scope} {new:Bool}
noncomputable def qag (hd:D→Env→M Env):Prop:=∀ d Γ S Γ' S',hd d Γ S=.ok Γ' S'→Γ'.length=Γ.length
theorem qaa7 {w:Wd} {H:Hp} {σ:St} {Γ:Env} {S:Sto} {src:Src} {items:List D} {J:It} {P:List D→Sto→Wd→Hp→Prop} {n:Nat} (hT:∀ i ∈ T,i < n) (hk:qag hd) (rel:Rel w H σ Γ) (hold:qe w H S) (wk:Walks J w H src items) (hz:items.length < sizeLine)
   (q:Wp E2 w H (lcA src n hd cond fe Γ [] items S) P) {Fin:List V→Hp→Prop} (hf:∀ ds vs S' w' H',Le w H w' H'→qe w' H' S'→qb w' H' ds vs→P ds S' w' H'→Fin vs H'):LcW J n (tG E2 T hd) (tB E2 cond) (tD E2 fe) σ H Fin:=by
 refine qaaa (k:=items.length) (fun i ys H'=>∃ w' S' acc,Le w H w' H'∧qe w' H' S'∧qb w' H' acc ys∧acc.length≤i∧i≤items.length∧Wp E2 w' H' (lcA src n hd cond fe Γ acc (items.drop i) S') P) hz ⟨w,S,[],Le.refl _ _,hold,rfl,Nat.le_refl _,Nat.zero_le _,q⟩ ?_ ?_ ?_ ?_ ?_
 · rintro i ys H' hi ⟨w',S',acc,_,_,r,hl,_⟩
   rw[← r.length];exact hl
 · rintro ys H' ⟨w',S',acc,l,hh,r,hl,_,q⟩
   rw[List.drop_length,lcA]at q
   exact wk.stop w' H' S' l hh (qa2 q).1
 · rintro i ys H' hi ⟨w',S',acc,l,hh,r,hl,_,q⟩
   rw[List.drop_eq_getElem_cons hi,lcA]at q
   exact wk.go w' H' S' i l hh (qa2 q).1 hi
 · rintro i ys H' hi ⟨w2,S2,acc,l2,h2,r2,hl,_,q2⟩ x H'' y
   rw[List.drop_eq_getElem_cons hi,lcA]at q2
   obtain ⟨so,q2⟩:=qa2 q2
   obtain ⟨w3,d,e3,l3,h3,r3⟩:=wk.yld w2 H' S2 i x H'' l2 h2 so hi y
   have:d=items[i]:=by rw[List.getElem?_eq_getElem hi]at e3;exact(Option.some.inj e3).symm
   subst this
   have q3:=Wp.bind (q2.later l3)
   refine⟨w3,items[i],_,S2,(rel.mono (l2.trans l3)).cons n,h3,r3,?_⟩
   cases e4:hd items[i] (List.replicate n none++Γ) S2 with
   | no=>rw[e4]at q3;exact q3
   | err x S4=>rw[e4]at q3;exact q3
   | ok Γ4 S4 =>
     rw[e4]at q3
     have hlen:Γ4.length=n+Γ.length:=by rw[hk _ _ _ _ _ e4];simp
     intro w4 H4 l4 h4 σ4 rel4 b4
     have q4:=q3 w4 H4 l4 h4
     refine⟨rel4.undrop hT b4 (by rw[← rel4.len,hlen,rel.len]),?_⟩
     refine qcy (k:=fun b Γ1=>if b=true then M.bind (fe Γ1) fun y=>lcA src n hd cond fe Γ (acc++[y]) (items.drop (i+1))else lcA src n hd cond fe Γ acc (items.drop (i+1))) rel4 h4 q4 fun bb S5 w5 H5 l5 rel5 h5 q5=> ?_
     have ll:=(l2.trans l3).trans (l4.trans l5)
     have rr:=r2.mono (l3.trans (l4.trans l5))
     cases bb with
     | true =>
       rw[if_pos rfl]
       refine qd (k:=fun y _=>lcA src n hd cond fe Γ (acc++[y]) (items.drop (i+1))) rel5 h5 q5 fun dy yv S6 w6 H6 l6 rel6 h6 ry q6=> ?_
       exact⟨w6,S6,acc++[dy],ll.trans l6,h6,(rr.mono l6).append (qb.one ry),by simp;omega,hi,q6⟩
     | false =>
       rw[if_neg Bool.false_ne_true]
       exact⟨w5,S5,acc,ll,h5,rr,by omega,hi,q5⟩
 · rintro ys H' ⟨w',S',acc,l,hh,r,hl,_,q⟩
   rw[List.drop_length,lcA]at q
   obtain ⟨_,q⟩:=qa2 q
   exact hf acc ys S' w' H' l hh r (q _ _ (Le.refl _ _) hh)
theorem qzs {σ:St} {H:Hp} {Q:VK} {n:Nat} (hT:∀ i ∈ T,i < n) (hk:qag hd) (h:tD E (lcD new n fi hd cond fe) σ H Q):tLC n (tI E fi) (tG E2 T hd) (tB E2 cond) (tD E2 fe) σ H Q:=by
 obtain ⟨w,Γ,S,rel,hold,q⟩:=h
 refine⟨w,Γ,S,rel,hold,(Wp.bind q).mono fun r S1 w1 H1 l1 h1 q1 J wk=> ?_⟩
 obtain ⟨hz,q1⟩:=Wp.iteF q1
 exact qaa7 hT hk (rel.mono l1) h1 wk (of_decide_eq_true hz) (Wp.noErr (Wp.bind q1)) fun ds vs S' w' H' l' h' rv q' D hD=>qaw h' rv q' hD
theorem r_lc (cc:qav X ts Mk scope) (hc:X.calm=true) (hi:PI X tg it (tI E fi)) (hg:∀ C fp s₀ H₀,PG (cxC X ts Mk scope C fp s₀ H₀) tg (tG E2 T hd)) (hf:∀ C fp s₀ H₀,PF (cxC X ts Mk scope C fp s₀ H₀) ifs (tB E2 cond))
   (he:∀ C fp s₀ H₀,PE (cxC X ts Mk scope C fp s₀ H₀) elt (tD E2 fe)) (hs:∀ x,foldedSetIterable it X.env x=pure x) (hT:∀ i ∈ T,i < ts.length) (hk:qag hd):PE X (.ListComp elt [⟨tg,it,ifs,0⟩] scope pos) (tD E (lcD new ts.length fi hd cond fe)) :=
 PE.mono (q99 cc hc hi hg hf he hs) fun σ H Q h=>qzs hT hk h
theorem q22 {i:Nat} {x:Str} {pos' spos:Pos} (hN:X.N.Nodup) (hix:X.N[i]? =some x) (hx:Loc X.env.scope x) (cc:qav X ts Mk scope) (hc:X.calm=true) (hi:PI X tg it (tI E fi)) (hg:∀ C fp s₀ H₀,PG (cxC X ts Mk scope C fp s₀ H₀) tg (tG E2 T hd)) (hf:∀ C fp s₀ H₀,PF (cxC X ts Mk scope C fp s₀ H₀) ifs (tB E2 cond))
   (he:∀ C fp s₀ H₀,PE (cxC X ts Mk scope C fp s₀ H₀) elt (tD E2 fe)) (hs:∀ x,foldedSetIterable it X.env x=pure x) (hsw:swapsWith (.ListComp elt [⟨tg,it,ifs,0⟩] scope pos) (some (.Name x pos')) spos.line X.env=pure true) (hfn:X.fn x=true∨X.env.scope.names.lookup x=some .local) (hT:∀ i ∈ T,i < ts.length) (hk:qag hd) :
   PS X (.Assign [.Name x pos'] (.ListComp elt [⟨tg,it,ifs,0⟩] scope pos) spos) (tS E fun Γ=>M.bind (lcD new ts.length fi hd cond fe Γ) fun d=>M.pure (.nx,Γ.set i (some d))):=by
 refine PS.mono (qy5 hN hix hx cc hc hi hg hf he hs hsw hfn) fun D σ H ⟨w,Γ,S,rel,hold,q⟩=> ?_
 refine qzs (new:=new) hT hk (qd (k:=fun d Γ=>M.pure (Fl.nx,Γ.set i (some d))) rel hold q fun dx x S1 w1 H1 l1 rel1 h1 rx q1=> ?_)
 exact(q1 _ _ (Le.refl _ _) h1:qca D (.nx,_) S1 w1 H1) _ (rel1.set rx)
theorem q4r:PF X [] (tB E fun _=>M.pure true):=fun pins s σ H Q I ⟨w,Γ,S,rel,hold,q⟩=>q6l pins s σ H Q I (q _ _ (Le.refl _ _) hold)
theorem qaa8 {c:Expr} (h:PT X c (tB E cond)):PF X [c] (tB E cond):=q6m h
end
theorem qxv (i:Nat):qag (q7q i):=fun d Γ S Γ' S' e=>by cases e;simp
end T3
namespace L2
open PySem PySem.Spec PyProof.Rows
section
variable {prog:Program} {w:World} {A:Around} {R:Result→Shared→Prop} {elt t1 i1 t2 i2:Expr} {f1 f2:List Expr} {scope:Scope} {pos:Pos} {it acc:Value} {env:Env} {s:Shared}
theorem qna:compTurn (.ListComp elt [⟨t1,i1,f1,0⟩,⟨t2,i2,f2,0⟩] scope pos) 0 it acc env=(do
     standAt i1.pos
     match ← pyNext it with
     | none=>pure (.done .next)
     | some v =>
       letOwnedTupleGo t1 it v
       assign t1 env v
       let mut ok:=true
       for c in f1 do
         if ok then ok ← isTrue c env (eval c env)
       if ok then
         let x ← eval i2 env
         standAt i2.pos
         let x ← foldedSetIterable i2 env x
         let _ ← runOwn (.compStart (.ListComp elt [⟨t1,i1,f1,0⟩,⟨t2,i2,f2,0⟩] scope pos) 1 (← holding [x] (pyIter x)) acc env) env
       again (.compLoop (.ListComp elt [⟨t1,i1,f1,0⟩,⟨t2,i2,f2,0⟩] scope pos) 0 it acc env)):=by rfl
theorem qnb:compTurn (.ListComp elt [⟨t1,i1,f1,0⟩,⟨t2,i2,f2,0⟩] scope pos) 1 it acc env=(do
     standAt i2.pos
     match ← pyNext it with
     | none=>pure (.done .next)
     | some v =>
       letOwnedTupleGo t2 it v
       assign t2 env v
       let mut ok:=true
       for c in f2 do
         if ok then ok ← isTrue c env (eval c env)
       if ok then
         (do let _ ← call (.builtin "list.append") [acc,← eval elt env])
       again (.compLoop (.ListComp elt [⟨t1,i1,f1,0⟩,⟨t2,i2,f2,0⟩] scope pos) 1 it acc env)):=by rfl
theorem qnc (I:Nat→Shared→Prop)
   (turn : ∀ n s,I n s→wpAny (model prog w) A (pyNext it) (fun r s₁=>match r with
     | none=>R (.ok .next) s₁
     | some v=>wpAny (model prog w) A (letOwnedTupleGo t2 it v) (fun _ s₁'=>wpAny (model prog w) A (assign t2 env v) (fun _ s₂ =>
         wpAny (model prog w) A (forIn f2 true fun c r=>if r=true then do let ok ← isTrue c env (eval c env);pure (ForInStep.yield ok)else pure (ForInStep.yield r)) (fun ok s₃ =>
           if ok=true then wpAny (model prog w) A (eval elt env) (fun x s₄ =>
             wpAny (model prog w) A (call (.builtin "list.append") [acc,x]) (fun _ s₅=>∃ m,m < n∧I m s₅) (fun _ _=>False) s₄) (fun _ _=>False) s₃
           else ∃ m,m < n∧I m s₃) (fun _ _=>False) s₂) (fun _ _=>False) s₁') (fun _ _=>False) s₁) (fun _ _=>False) s)
   (n:Nat) (h:I n s) :
   codeAny (model prog w) A (.compLoop (.ListComp elt [⟨t1,i1,f1,0⟩,⟨t2,i2,f2,0⟩] scope pos) 1 it acc env) R s:=by
 refine codeAny_loop rfl I (fun n s hI=> ?_) n h
 show wpAny _ A ((compTurn (.ListComp elt [⟨t1,i1,f1,0⟩,⟨t2,i2,f2,0⟩] scope pos) 1 it acc env).onRaise (fun x=>do noteFrame x env;theTreesLotGoes x)) _ _ s
 refine wpAny_noted ?_
 rw[qnb]
 refine wpAny_bind (wpAny_standAt (wpAny_bind (wpAny_mono (turn n s hI) (fun r s₁ h₁=> ?_) fun _ _ h'=>h'.elim)))
 cases r with
 | none=>exact wpAny_pure h₁
 | some v =>
   refine wpAny_bind (wpAny_mono h₁ (fun _ s₁' h₁'=> ?_) fun _ _ h'=>h'.elim)
   refine wpAny_bind (wpAny_mono h₁' (fun _ s₂ h₂=>wpAny_bind (wpAny_mono h₂ (fun ok s₃ h₃=> ?_) fun _ _ h'=>h'.elim)) fun _ _ h'=>h'.elim)
   cases ok with
   | false=>exact wpAny_pure ⟨rfl,h₃⟩
   | true =>
     exact wpAny_bind (wpAny_bind (wpAny_mono h₃ (fun x s₄ h₄=>wpAny_bind (wpAny_mono h₄ (fun _ s₅ h₅=>wpAny_pure (wpAny_pure ⟨rfl,h₅⟩)) fun _ _ h'=>h'.elim)) fun _ _ h'=>h'.elim))
theorem qnd (hs:∀ x,foldedSetIterable i2 env x=pure x) (I:Nat→Shared→Prop)
   (turn : ∀ n s,I n s→wpAny (model prog w) A (pyNext it) (fun r s₁=>match r with
     | none=>R (.ok .next) s₁
     | some v=>wpAny (model prog w) A (letOwnedTupleGo t1 it v) (fun _ s₁'=>wpAny (model prog w) A (assign t1 env v) (fun _ s₂ =>
         wpAny (model prog w) A (forIn f1 true fun c r=>if r=true then do let ok ← isTrue c env (eval c env);pure (ForInStep.yield ok)else pure (ForInStep.yield r)) (fun ok s₃ =>
           if ok=true then wpAny (model prog w) A (eval i2 env) (fun x s₄ =>
             wpAny (model prog w) A (pyIter x) (fun itv s₅=>codeAny (model prog w) A (.compStart (.ListComp elt [⟨t1,i1,f1,0⟩,⟨t2,i2,f2,0⟩] scope pos) 1 itv acc env) (fun r s₆=>match r with | .ok _=>∃ m,m < n∧I m s₆ | .error _=>False) s₅) (fun _ _=>False) s₄) (fun _ _=>False) s₃
           else ∃ m,m < n∧I m s₃) (fun _ _=>False) s₂) (fun _ _=>False) s₁') (fun _ _=>False) s₁) (fun _ _=>False) s)
   (n:Nat) (h:I n s) :
   codeAny (model prog w) A (.compLoop (.ListComp elt [⟨t1,i1,f1,0⟩,⟨t2,i2,f2,0⟩] scope pos) 0 it acc env) R s:=by
 refine codeAny_loop rfl I (fun n s hI=> ?_) n h
 show wpAny _ A ((compTurn (.ListComp elt [⟨t1,i1,f1,0⟩,⟨t2,i2,f2,0⟩] scope pos) 0 it acc env).onRaise (fun x=>do noteFrame x env;theTreesLotGoes x)) _ _ s
 refine wpAny_noted ?_
 rw[qna]
 refine wpAny_bind (wpAny_standAt (wpAny_bind (wpAny_mono (turn n s hI) (fun r s₁ h₁=> ?_) fun _ _ h'=>h'.elim)))
 cases r with
 | none=>exact wpAny_pure h₁
 | some v =>
   refine wpAny_bind (wpAny_mono h₁ (fun _ s₁' h₁'=> ?_) fun _ _ h'=>h'.elim)
   refine wpAny_bind (wpAny_mono h₁' (fun _ s₂ h₂=>wpAny_bind (wpAny_mono h₂ (fun ok s₃ h₃=> ?_) fun _ _ h'=>h'.elim)) fun _ _ h'=>h'.elim)
   cases ok with
   | false=>exact wpAny_pure ⟨rfl,h₃⟩
   | true =>
     refine wpAny_bind (wpAny_mono h₃ (fun x s₄ h₄=>wpAny_bind (wpAny_standAt (wpAny_bind (wpAny_of_eq (hs x) (wpAny_bind (wpAny_holding (wpAny_mono h₄ (fun itv s₅ h₅=> ?_) fun _ _ h'=>h'.elim))))))) fun _ _ h'=>h'.elim)
     refine wpAny_bind (wpAny_runOwn (codeAny_mono h₅ fun r s₆ h₆=> ?_))
     cases r with
     | ok f=>exact wpAny_pure ⟨rfl,h₆⟩
     | error e=>exact h₆.elim
theorem qlh
   (h0:codeAny (model prog w) A (.compLoop (.ListComp elt [⟨t1,i1,f1,0⟩,⟨t2,i2,f2,0⟩] scope pos) 1 it acc env) R s)
   (h:wpAny (model prog w) A (pyIter it) (fun it' s'=>codeAny (model prog w) A (.compLoop (.ListComp elt [⟨t1,i1,f1,0⟩,⟨t2,i2,f2,0⟩] scope pos) 1 it' acc env) R s')
     (notedBy (model prog w) A env fun x s'=>R (.error x) s') s) :
   codeAny (model prog w) A (.compStart (.ListComp elt [⟨t1,i1,f1,0⟩,⟨t2,i2,f2,0⟩] scope pos) 1 it acc env) R s:=by
 refine codeAny_of_tree ?_
 show wpAny _ _ ((compStart (.ListComp elt [⟨t1,i1,f1,0⟩,⟨t2,i2,f2,0⟩] scope pos) 1 it acc env).onRaise (fun x=>do noteFrame x env;standAt theWindowsPlace)) _ _ s
 refine wpAny_notedAt ?_
 unfold compStart
 show wpAny _ _ (ask >>= _) _ _ s
 refine wpAny_bind (wpAny_askSetting (wpAny_ite ?_))
 split
 · first
     | exact wpAny_bind (wpAny_pure (wpAny_pure (And.intro rfl h0)))
     | exact wpAny_pure (And.intro rfl h0)
 · first
     | exact wpAny_bind (wpAny_rule (wpAny_bind (wpAny_standAt (wpAny_bind (wpAny_mono h (fun it' s' h'=>wpAny_pure (And.intro rfl h')) fun _ _ x=>x)))))
     | (refine wpAny_bind (wpAny_rule ?_);show wpAny _ _ (standAt i2.pos >>= _) _ _ s;exact wpAny_bind (wpAny_standAt (wpAny_bind (wpAny_mono h (fun it' s' h'=>wpAny_pure (And.intro rfl h')) fun _ _ x=>x))))
end
noncomputable def LcI (J:It) (n:Nat) (g:TG) (tt:TT) (te:TE) (σ:St) (H1:Hp) (ys0:List V) (Fin:List V→Hp→Prop):Prop :=
 ∃ W : Nat→Nat→List V→Hp→Prop,(∃ m,W 0 m ys0 H1)∧∀ i m ys H,W i m ys H→ys.length < sizeLine ∧
   ((J.stop i H∧Fin ys H) ∨
    (J.go i H∧∃ N:List V→Hp→Prop,(∀ ys' H',N ys' H'→∃ m',m' < m∧W (i+1) m' ys' H')∧∀ x H',J.yld i H x H'→g x (List.replicate n none++σ) H' fun σ2 H2=>σ2.drop n=σ∧tt σ2 H2 fun c H3 =>
       if c=true then te σ2 H3 fun y H4=>N (ys++[y]) H4 else N ys H3))
section
variable {Y:Cx}
theorem Inv.bareN {pins:List (Addr × Obj)} {σ' σ:St} {H:Hp} {s:Shared} {n:Nat} (I:Inv Y pins σ' H s) (hn:n≤σ'.length) (d:σ'.drop n=σ):Inv Y pins (List.replicate n none++σ) H s:=by
 refine I.weak (by rw[List.length_append,List.length_replicate,← d,List.length_drop];omega) (fun j v e=> ?_)
 have hj:n≤j:=by
   rcases Nat.lt_or_ge j n with z | z
   · rw[List.getElem?_append_left (by simpa using z),List.getElem?_replicate]at e
     split at e <;> cases e
   · exact z
 rw[List.getElem?_append_right (by simpa using hj)]at e
 rw[← d,List.getElem?_drop]at e
 simp only [List.length_replicate]at e
 rwa [show n+(j - n)=j by omega]at e
theorem qzt {elt t1 i1 t2 i2:Expr} {f1 f2:List Expr} {scope:Scope} {pos:Pos} {g:TG} {tt:TT} {te:TE} (hc:Y.calm=true) (hx:Y.xe=fun _ _=>False) (hpn:Y.pn=[]) (hg:PG Y t2 g) (hf:PF Y f2 tt) (he:PE Y elt te)
   {D:Addr} {pins0:List (Addr × Obj)} {n:Nat} {σ1 σ2:St} {H:Hp} {s:Shared} {ys0:List V} {its0:List Value} {k0:Nat} (hDl:D ≠ Y.env.locals) (hDs:Y.s₀.heap.objs.size≤D) (hDc:∀ x a,Y.env.cells.lookup x=some a→a ≠ D) (hDp:∀ p ∈ pins0,p.1 ≠ D) (hDf:D ∉ Y.fs)
   (hn:n≤Y.N.length) (I:Inv Y ((D,{ cls:=.type "list",data:=.seq its0.toArray k0 })::pins0) σ2 H s) (d:σ2.drop n=σ1) {it:Addr} {fp:List Addr} {tn:Nat→Heap→Prop} {J:It} (T:Turn Y.prog Y.w Y.K t2 J fp it tn) (t0:tn 0 s.heap)
   (f0:∀ b ∈ fp,qed Y ((D,{ cls:=.type "list",data:=.seq its0.toArray k0 })::pins0) H b) (rv0:Vals ys0 its0) {Fin:List V→Hp→Prop} (hw:LcI J n g tt te σ1 H ys0 Fin) {R:Result→Shared→Prop}
   (hR:∀ (σ':St) (H':Hp) (s':Shared) (ys:List V) (its:List Value) (k:Nat),Inv Y ((D,{ cls:=.type "list",data:=.seq its.toArray k })::pins0) σ' H' s'→σ'.drop n=σ1→Vals ys its→Fin ys H'→R (.ok .next) s') :
   codeAny (model Y.prog Y.w) Y.A (.compStart (.ListComp elt [⟨t1,i1,f1,0⟩,⟨t2,i2,f2,0⟩] scope pos) 1 (.ref it) (.ref D) Y.env) R s:=by
 obtain ⟨W,⟨m0,w0⟩,turn⟩:=hw
 have loop :codeAny (model Y.prog Y.w) Y.A (.compLoop (.ListComp elt [⟨t1,i1,f1,0⟩,⟨t2,i2,f2,0⟩] scope pos) 1 (.ref it) (.ref D) Y.env) R s:=by
   refine qnc (fun n' s'=>∃ (i:Nat) (σ':St) (H':Hp) (ys:List V) (its:List Value) (k:Nat),Inv Y ((D,{ cls:=.type "list",data:=.seq its.toArray k })::pins0) σ' H' s'∧σ'.drop n=σ1∧tn i s'.heap∧(∀ b ∈ fp,H' b=none)∧Vals ys its∧W i n' ys H') ?_ m0
     ⟨0,_,H,ys0,its0,k0,I,d,t0,fun b hb=>(f0 b hb).1,rv0,w0⟩
   rintro n' s1 ⟨i,σ',H1,ys,its,k,I1,d1,t1',fr1,rv1,w1⟩
   obtain ⟨hz,hturn⟩:=turn i n' ys H1 w1
   have stat:∀ {H':Hp},(∀ b ∈ fp,H' b=none)→∀ b ∈ fp,qed Y ((D,{ cls:=.type "list",data:=.seq its.toArray k })::pins0) H' b:=fun {H'} hn b hb=>by
     obtain ⟨_,a2,a3,a4,a5,a6⟩:=f0 b hb
     refine⟨hn b hb,a2,a3,a4,a5,fun p hp=> ?_⟩
     rcases List.mem_append.mp hp with z | z
     · exact a6 p (List.mem_append_left _ z)
     · rcases List.mem_cons.mp z with z | z
       · subst z
         exact a6 (D,{ cls:=.type "list",data:=.seq its0.toArray k0 }) (List.mem_append_right _ List.mem_cons_self)
       · exact a6 p (List.mem_append_right _ (List.mem_cons_of_mem _ z))
   rcases hturn with ⟨stop,fin⟩ | ⟨go,N,hN,step⟩
   · refine wpAny_mono (T.done Y rfl rfl rfl hc i _ s1 σ' H1 (fun _ _=>False) I1 (stat fr1) t1' stop) (fun r s2 ⟨hr,I2⟩=> ?_) fun _ _ z=>z
     subst hr
     exact hR σ' H1 s2 ys its k I2 d1 rv1 fin
   · refine wpAny_mono (T.item Y rfl rfl rfl hc i _ s1 σ' H1 (fun _ _=>False) I1 (stat fr1) t1' go) (fun r s2 ⟨u,hr,h2⟩=> ?_) fun _ _ z=>z
     subst hr
     refine wpAny_mono h2 (fun _ s3 ⟨x,H3,I3,r3,y3,t3,fr3⟩=> ?_) fun _ _ z=>z
     have hlen':n≤σ'.length:=by rw[I3.len];exact hn
     have I3':=((I3.pinned (stat fr3) (T.obj _ _ t3)).bareN hlen' d1)
     have hgx:=hg _ s3 _ H3 x u _ I3' r3 (step x H3 y3)
     rw[hx]at hgx
     refine wpAny_mono hgx (fun _ s4 ⟨σ4,H4,I4,d4,q4⟩=> ?_) fun _ _ z=>z
     have hfx:=hf _ s4 σ4 H4 _ I4 q4
     rw[hx]at hfx
     refine wpAny_mono hfx (fun ok s5 ⟨H5,I5,q5⟩=> ?_) fun _ _ z=>z
     have keepT:∀ {σ7:St} {H7:Hp} {s7:Shared},Inv Y (((D,{ cls:=.type "list",data:=.seq its.toArray k })::pins0)++qee fp s3.heap) σ7 H7 s7→tn (i+1) s7.heap∧(∀ b ∈ fp,H7 b=none):=fun {σ7 H7 s7} I7 =>
       ⟨T.keep _ _ _ t3 fun b hb o e=>(I7.pin (b,o) (List.mem_append_right _ (List.mem_append_right _ (qar hb e)))).1,fun b hb=>by
         obtain ⟨o,e,_⟩:=T.obj _ _ t3 b hb
         exact(I7.pin (b,o) (List.mem_append_right _ (List.mem_append_right _ (qar hb e)))).2.1⟩
     cases ok with
     | false =>
       rw[if_neg Bool.false_ne_true]at q5 ⊢
       obtain ⟨m',hm,w'⟩:=hN _ _ q5
       exact⟨m',hm,i+1,σ4,H5,ys,its,k,I5.unpinned,d4,(keepT I5).1,(keepT I5).2,rv1,w'⟩
     | true =>
       rw[if_pos rfl]at q5 ⊢
       have hex:=he _ s5 σ4 H5 _ I5 q5
       rw[hx]at hex
       refine wpAny_mono hex (fun v s6 ⟨y,H6,I6,r6,q6⟩=> ?_) fun _ _ z=>z
       obtain ⟨m',hm,w'⟩:=hN _ _ q6
       have pD:=I6.pin (D,{ cls:=.type "list",data:=.seq its.toArray k }) (by simp)
       have hlen:=rv1.length
       refine call_meets F.slot_list_append ⟨_,pD.1,rfl⟩ F.entry_list_append (F.args_list_append_2 _ _) (PySem.list_append D its.toArray k v (by rw[List.size_toArray];omega)) ⟨pD.1,?_⟩
       have q:=PySem.IsL.update pD.1 (·.push v)
       rw[show its.toArray.push v=(its++[v]).toArray by simp]at q
       have up:∀ b o,b ≠ D→s6.heap.get? b=some o→(s6.heap.update D (Obj.mapSeq (·.push v))).get? b=some o:=fun b o hb e=>(Heap.get?_update_other s6.heap (Obj.mapSeq (·.push v)) (Ne.symm hb)).trans e
       have I7:Inv Y pins0 σ4 H6 { s6 with heap:=s6.heap.update D (Obj.mapSeq (·.push v)),toks:=s6.toks } :=
         (I6.pins_of (pins':=pins0) (fun p hp=>I6.pin p (List.mem_append_right _ (List.mem_append_left _ (List.mem_cons_of_mem _ hp))))).turned up pD.2.1 hDl (.inr hDs) hDc (fun p hp=>by
           rw[hpn]at hp
           exact hDp p (by simpa using hp))
       have nDfp:D ∉ fp:=fun z=>(f0 D z).2.2.2.2.2 (D,{ cls:=.type "list",data:=.seq its0.toArray k0 }) (List.mem_append_right _ List.mem_cons_self) rfl
       have I8:=I7.pins_of (pins':=(D,{ cls:=.type "list",data:=.seq (its++[v]).toArray _ })::pins0) (fun p hp=>by
         rcases List.mem_cons.mp hp with z | z
         · subst z
           exact⟨q,pD.2.1,hDl,hDf,fun v z=>by cases z⟩
         · exact I7.pin p (List.mem_append_right _ z))
       refine⟨m',hm,i+1,σ4,H6,ys++[y],its++[v],_,I8,d4,?_,(keepT I6).2,rv1.append (.cons r6 .nil),w'⟩
       exact T.keep _ _ _ (keepT I6).1 fun b hb o e=>up b o (fun z=>nDfp (z ▸ hb)) e
 exact qlh loop (T.self _ 0 _ _ _ t0 loop)
end
noncomputable def LcO (J:It) (n n2:Nat) (g:TG) (tt:TT) (wi2:TI) (g2:TG) (tt2:TT) (te:TE) (σ:St) (H1:Hp) (Fin:List V→Hp→Prop):Prop :=
 ∃ W : Nat→Nat→List V→Hp→Prop,(∃ m,W 0 m [] H1)∧∀ i m ys H,W i m ys H→ys.length < sizeLine ∧
   ((J.stop i H∧Fin ys H) ∨
    (J.go i H∧∃ N:List V→Hp→Prop,(∀ ys' H',N ys' H'→∃ m',m' < m∧W (i+1) m' ys' H')∧∀ x H',J.yld i H x H'→g x (List.replicate n none++σ) H' fun σ2 H2=>σ2.drop n=σ∧tt σ2 H2 fun c H3 =>
       if c=true then wi2 σ2 H3 fun J2 H4=>LcI J2 n2 g2 tt2 te (σ2.drop n2) H4 ys N else N ys H3))
noncomputable def tLC2 (n n2:Nat) (wi:TI) (g:TG) (tt:TT) (wi2:TI) (g2:TG) (tt2:TT) (te:TE):TE:=fun σ H Q=>wi σ H fun J H1=>LcO J n n2 g tt wi2 g2 tt2 te σ H1 fun ys H'=>∀ D,H' D=none→Q (.ref D) (upd H' D (.lst ys))
section
variable {X:Cx} {pins:List (Addr × Obj)} {σ:St} {H:Hp} {s:Shared} {ts M:List Str} {scope:Scope} {fp:List Addr}
theorem qxw {tg iter t2 i2 elt:Expr} {ifs f2:List Expr} {pos:Pos} {g g2:TG} {tt tt2:TT} {wi2:TI} {te:TE} {n2:Nat} (hn2:n2≤ts.length) (c:qav X ts M scope) (hc:X.calm=true) (hg:∀ C fp s₀ H₀,PG (cxC X ts M scope C fp s₀ H₀) tg g) (hf:∀ C fp s₀ H₀,PF (cxC X ts M scope C fp s₀ H₀) ifs tt)
   (hi2:∀ C fp s₀ H₀,PI (cxC X ts M scope C fp s₀ H₀) t2 i2 wi2) (hg2:∀ C fp s₀ H₀,PG (cxC X ts M scope C fp s₀ H₀) t2 g2) (hf2:∀ C fp s₀ H₀,PF (cxC X ts M scope C fp s₀ H₀) f2 tt2)
   (he:∀ C fp s₀ H₀,PE (cxC X ts M scope C fp s₀ H₀) elt te) (hs2:∀ env x,foldedSetIterable i2 env x=pure x) {it:Addr} {tn:Nat→Heap→Prop} {J:It} {Fin:List V→Hp→Prop} (I:Inv X pins σ H s) (T:Turn X.prog X.w X.K tg J fp it tn) (t0:tn 0 s.heap) (f0:∀ b ∈ fp,qed X pins H b) (hw:LcO J ts.length n2 g tt wi2 g2 tt2 te σ H Fin)
   {RR:Value→Addr→Result→Shared→Prop}
   (hRR:∀ (D C:Addr) (H':Hp) (s':Shared) (ys:List V) (m:Str→Option Value),Inv X pins σ (upd H' D (.lst ys)) s'→s'.heap.Ns C m→C ≠ X.env.locals→(∀ x a,X.env.cells.lookup x=some a→a ≠ C)→X.s₀.heap.objs.size≤C→upd H' D (.lst ys) C=none→(∀ p ∈ X.pn++pins,p.1 ≠ C)→H' D=none→Fin ys H'→RR (.ref D) C (.ok .next) s') :
   wpAny (model X.prog X.w) X.A (newList []) (fun acc s₃=>wpAny (model X.prog X.w) X.A (newFunctionEnv scope X.env.globals (clo scope X.env) [] X.env.qual none .none (some X.env)) (fun cenv s₄ =>
     codeAny (model X.prog X.w) X.A (.compStart (.ListComp elt [⟨tg,iter,ifs,0⟩,⟨t2,i2,f2,0⟩] scope pos) 0 (.ref it) acc { cenv with scope:=relabel scope X.env }) (RR acc cenv.locals) s₄) X.xe s₃) X.xe s:=by
 obtain ⟨W,⟨m0,w0⟩,turn⟩:=hw
 have fpo:∀ b ∈ fp,b < s.heap.objs.size:=fun b hb=>by obtain ⟨o,e,_⟩:=T.obj _ _ t0 b hb;exact Heap.lt_size e
 refine wpAny_newObj_type (qgh ?_)
 dsimp only
 generalize hH2:s.heap.push { cls:=.type "list",dict:=none,data:=.seq ([]:List Value).toArray }=h2
 have hCs:h2.objs.size=s.heap.objs.size+1:=by rw[← hH2,Heap.size_push]
 obtain ⟨C,hCe⟩:∃ C:Nat,h2.objs.size=C:=⟨_,rfl⟩
 obtain ⟨D,hDe⟩:∃ D:Nat,s.heap.objs.size=D:=⟨_,rfl⟩
 have hns₁:=(Heap.Ns.new h2 (.type "dict")).keeps (pushCells_keeps scope.names (h2.push { cls:=.type "dict",data:=.dict #[] }))
 have ok:=cellsFrom_ok scope.names (h2.push { cls:=.type "dict",data:=.dict #[] }) (h2.objs.size+1) [] ⟨fun _ _ hm=>(nomatch hm),List.Pairwise.nil⟩ (by rw[Heap.size_push];exact Nat.le_refl _)
 rw[Heap.size_push]at ok
 rw[hCe]at hns₁ ok ⊢
 rw[hDe]
 rw[hCe,hDe]at hCs
 have hDC:D ≠ C:=by omega
 generalize hh1:pushCells (h2.push { cls:=.type "dict",data:=.dict #[] }) scope.names=h₁ at hns₁ ok ⊢
 have kp:∀ b o,h2.get? b=some o→h₁.get? b=some o:=fun b o e=>by rw[← hh1];exact pushCells_keeps _ _ b o (Heap.get?_push_of_some _ e)
 have old:∀ b u,s.heap.get? b=some u→h₁.get? b=some u:=fun b u e=>kp b u (hH2 ▸ Heap.get?_push_of_some _ e)
 have hacc:h₁.get? D=some { cls:=.type "list",data:=.seq ([]:List Value).toArray 0 }:=by
   refine kp _ _ ?_
   rw[← hH2,← hDe]
   exact Heap.get?_push_size _ rfl
 have hns:h₁.Ns C fun _=>none:=hns₁
 have hO:q2d scope C h₁:=⟨fun x a h=>⟨(ok.empty x a h).1,(ok.empty x a h).2⟩,ok.apart⟩
 have J0:Inv (cxC X ts M scope C fp s H) [] (List.replicate ts.length none++σ) H { s with heap:=h₁,toks:=s.toks }:=I.comp c f0 fpo (by omega) hns hO old
 have hDn:H D=none:=I.hok.fresh (by omega)
 have loop : codeAny (model X.prog X.w) X.A (.compLoop (.ListComp elt [⟨tg,iter,ifs,0⟩,⟨t2,i2,f2,0⟩] scope pos) 0 (.ref it) (.ref D) (compEnvC scope (cellsFrom (C+1) scope.names (clo scope X.env)) C X.env)) (RR (.ref D) C) { s with heap:=h₁,toks:=s.toks }:=by
   refine qnd (hs2 _) (fun n s'=>∃ (i:Nat) (σ':St) (H':Hp) (ys:List V) (its:List Value) (k:Nat),Inv (cxC X ts M scope C fp s H) [] σ' H' s'∧σ'.drop ts.length=σ∧tn i s'.heap∧(∀ b ∈ fp,H' b=none)∧H' D=none∧s'.heap.get? D=some { cls:=.type "list",data:=.seq its.toArray k }∧Vals ys its∧W i n ys H') ?_ m0
     ⟨0,_,H,[],[],0,J0,by rw[List.drop_append,List.drop_of_length_le (by simp)];simp,T.keep _ _ _ t0 fun b _ o e=>old b o e,fun b hb=>(f0 b hb).1,hDn,hacc,.nil,w0⟩
   rintro n s1 ⟨i,σ1,H1,ys,its,k,I1,d1,t1,fr1,hD1,hl1,rv1,w1⟩
   obtain ⟨hz,hturn⟩:=turn i n ys H1 w1
   have nDfp:D ∉ fp:=fun z=>by have: @LT.lt Nat _ D s.heap.objs.size:=fpo D z;omega
   have neC:∀ x a,(cellsFrom (C+1) scope.names (clo scope X.env)).lookup x=some a→a ≠ D:=fun x a h z=>by
     have z: @Eq Nat a D:=z
     rcases qam h with h | ⟨_,h⟩
     · have:=(hO.empty _ _ h).2
       omega
     · obtain ⟨v,q⟩:=I.cell x a (qeg (c.has I.ok) h)
       have: @LT.lt Nat _ a s.heap.objs.size:=q.lt
       omega
   have pinD:∀ {H':Hp} {s':Shared} {obj:Obj},s'.heap.get? D=some obj→H' D=none→(∀ v,obj.data ≠ .cell v)→∀ p ∈ [(D,obj)],s'.heap.get? p.1=some p.2∧H' p.1=none∧p.1 ≠ (cxC X ts M scope C fp s H).env.locals∧p.1 ∉ (cxC X ts M scope C fp s H).fs∧∀ v,p.2.data ≠ .cell v:=by
     intro H' s' obj e1 e2 e3 p hp
     have hp:p=(D,obj):=by simpa using hp
     subst hp
     refine⟨e1,e2,hDC,fun z=> ?_,e3⟩
     have z:D ∈ frs X.stack:=z
     rcases List.mem_cons.mp (I.stkSub D z)with e | e
     · have: @LT.lt Nat _ X.env.locals s.heap.objs.size:=I.lt
       have e: @Eq Nat D X.env.locals:=e
       omega
     · exact I.nofs (a:=D) (by omega) e
   have I1':=I1.pins_of (pinD hl1 hD1 fun v z=>by cases z)
   have fpk:∀ {H':Hp},(∀ b ∈ fp,H' b=none)→∀ b ∈ fp,qed (cxC X ts M scope C fp s H) [(D,{ cls:=.type "list",data:=.seq its.toArray k })] H' b:=fun {H'} fr b hb=>by
     refine⟨fr b hb,fun z=> ?_,I1.ok.exfs b hb,.inl hb,fun x a h=> ?_,fun p hp=> ?_⟩
     · have: @LT.lt Nat _ b s.heap.objs.size:=fpo b hb
       have z: @Eq Nat b C:=z
       omega
     · rcases qam h with h | ⟨_,h⟩
       · have h1:=(hO.empty _ _ h).2
         have h2: @LT.lt Nat _ b s.heap.objs.size:=fpo b hb
         exact Nat.ne_of_gt (by omega)
       · exact(f0 b hb).2.2.2.2.1 x a (qeg (c.has I.ok) h)
     · have hp:p=(D,{ cls:=.type "list",data:=.seq its.toArray k }):=by simpa [cxC]using hp
       subst hp
       rintro rfl
       exact nDfp hb
   rcases hturn with ⟨stop,fin⟩ | ⟨go,N,hN,step⟩
   · refine wpAny_mono (T.done (cxC X ts M scope C fp s H) rfl rfl rfl hc i _ s1 σ1 H1 (fun _ _=>False) I1' (fpk fr1) t1 stop) (fun r s2 ⟨hr,I2⟩=> ?_) fun _ _ z=>z
     subst hr
     have pD:=I2.pin (D,{ cls:=.type "list",data:=.seq its.toArray k }) (by simp)
     obtain ⟨m2,hn2,_⟩:=I2.loc
     refine hRR D C H1 s2 ys m2 (I.comped f0 I2 (by omega) hD1 (by omega) rv1 pD.1) hn2 ?_ (fun x a h=> ?_) ?_ ?_ (fun p hp=> ?_) hD1 fin
     · have: @LT.lt Nat _ X.env.locals s.heap.objs.size:=I.lt
       exact Nat.ne_of_gt (by omega)
     · obtain ⟨v,q⟩:=I.cell x a h
       have: @LT.lt Nat _ a s.heap.objs.size:=q.lt
       exact Nat.ne_of_lt (by omega)
     · have:=I.sz;omega
     · rw[qc (Ne.symm hDC)];exact I2.free
     · have: @LT.lt Nat _ p.1 s.heap.objs.size:=Heap.lt_size (I.pin p hp).1
       exact Nat.ne_of_lt (by omega)
   · refine wpAny_mono (T.item (cxC X ts M scope C fp s H) rfl rfl rfl hc i _ s1 σ1 H1 (fun _ _=>False) I1' (fpk fr1) t1 go) (fun r s2 ⟨u,hr,h2⟩=> ?_) fun _ _ z=>z
     subst hr
     refine wpAny_mono h2 (fun _ s3 ⟨x,H3,I3,r3,y3,t3,fr3⟩=> ?_) fun _ _ z=>z
     have I3':Inv (cxC X ts M scope C fp s H) _ (List.replicate ts.length none++σ) H3 s3:=(I3.pinned (fpk fr3) (T.obj _ _ t3)).weak (by
         have:=I3.len
         have e:σ1.length=(ts++M).length:=I3.len
         rw[List.length_append,List.length_replicate,I.len,e,List.length_append,c.len]) (fun j v e=>by
         have hj:ts.length≤j:=by
           rcases Nat.lt_or_ge j ts.length with z | z
           · rw[List.getElem?_append_left (by simpa using z),List.getElem?_replicate]at e
             split at e <;> cases e
           · exact z
         rw[List.getElem?_append_right (by simpa using hj)]at e
         rw[← d1,List.getElem?_drop]at e
         simp only [List.length_replicate]at e
         rwa [show ts.length+(j - ts.length)=j by omega]at e)
     refine wpAny_mono (hg C fp s H _ s3 _ H3 x u _ I3' r3 (step x H3 y3)) (fun _ s4 ⟨σ4,H4,I4,d4,q4⟩=> ?_) fun _ _ z=>z
     refine wpAny_mono (hf C fp s H _ s4 σ4 H4 _ I4 q4) (fun ok s5 ⟨H5,I5,q5⟩=> ?_) fun _ _ z=>z
     have keepT:∀ {σ7:St} {H7:Hp} {s7:Shared} {o7:Obj},Inv (cxC X ts M scope C fp s H) ((D,o7)::qee fp s3.heap) σ7 H7 s7→tn (i+1) s7.heap∧(∀ b ∈ fp,H7 b=none):=fun {σ7 H7 s7 o7} I7 =>
       ⟨T.keep _ _ _ t3 fun b hb o e=>(I7.pin (b,o) (List.mem_append_right _ (List.mem_cons_of_mem _ (qar hb e)))).1,fun b hb=>by
         obtain ⟨o,e,_⟩:=T.obj _ _ t3 b hb
         exact(I7.pin (b,o) (List.mem_append_right _ (List.mem_cons_of_mem _ (qar hb e)))).2.1⟩
     cases ok with
     | false =>
       rw[if_neg Bool.false_ne_true]at q5 ⊢
       obtain ⟨m',hm,w'⟩:=hN _ _ q5
       have pD:=I5.pin (D,{ cls:=.type "list",data:=.seq its.toArray k }) (by simp)
       exact⟨m',hm,i+1,σ4,H5,ys,its,k,I5.pins_of (fun p hp=>by simp at hp),d4,(keepT I5).1,(keepT I5).2,pD.2.1,pD.1,rv1,w'⟩
     | true =>
       rw[if_pos rfl]at q5 ⊢
       refine wpAny_mono (hi2 C fp s H _ s5 σ4 H5 _ I5 q5) (fun v s6 h6=> ?_) fun _ _ z=>z
       refine wpAny_mono h6 (fun itv s7 h7=> ?_) fun _ _ z=>z
       obtain ⟨it2,fp2,tn2,J2,H7,rfl,I7,T2,t02,f02,hw2⟩:=h7
       have hDf:D ∉ (cxC X ts M scope C fp s H).fs:=(pinD hl1 hD1 (fun v z=>by cases z) (D,{ cls:=.type "list",data:=.seq its.toArray k }) (by simp)).2.2.2.1
       refine qzt (Y:=cxC X ts M scope C fp s H) (D:=D) (pins0:=qee fp s3.heap) (n:=n2) (σ1:=σ4.drop n2) (its0:=its) (k0:=k) hc rfl rfl (hg2 C fp s H) (hf2 C fp s H) (he C fp s H) hDC (by show s.heap.objs.size≤D;omega) (fun x a h=>neC x a h) (fun p hp z=>nDfp (z ▸ (qn8 hp).1)) hDf
         (by show n2≤(ts++M).length;rw[List.length_append];omega) I7 rfl T2 t02 f02 rv1 hw2 ?_
       intro σ8 H8 s8 ys8 its8 k8 I8 d8 rv8 n8
       obtain ⟨m',hm,w'⟩:=hN _ _ n8
       have pD:=I8.pin (D,{ cls:=.type "list",data:=.seq its8.toArray k8 }) (by simp)
       refine⟨m',hm,i+1,σ8,H8,ys8,its8,k8,I8.pins_of (fun p hp=>by simp at hp),?_,(keepT I8).1,(keepT I8).2,pD.2.1,pD.1,rv8,w'⟩
       have e1:σ8.drop ts.length=(σ8.drop n2).drop (ts.length - n2):=by rw[List.drop_drop];congr 1;omega
       rw[e1,d8,List.drop_drop,show n2+(ts.length - n2)=ts.length by omega]
       exact d4
 exact codeAny_compStart_list loop (T.self _ 0 _ _ _ (T.keep _ _ _ t0 fun b _ o e=>old b o e) loop)
theorem q7z {tg iter t2 i2 elt:Expr} {ifs f2:List Expr} {pos:Pos} {wi wi2:TI} {g g2:TG} {tt tt2:TT} {te:TE} {n2:Nat} (hn2:n2≤ts.length) (c:qav X ts M scope) (hc:X.calm=true) (hi:PI X tg iter wi) (hg:∀ C fp s₀ H₀,PG (cxC X ts M scope C fp s₀ H₀) tg g) (hf:∀ C fp s₀ H₀,PF (cxC X ts M scope C fp s₀ H₀) ifs tt)
   (hi2:∀ C fp s₀ H₀,PI (cxC X ts M scope C fp s₀ H₀) t2 i2 wi2) (hg2:∀ C fp s₀ H₀,PG (cxC X ts M scope C fp s₀ H₀) t2 g2) (hf2:∀ C fp s₀ H₀,PF (cxC X ts M scope C fp s₀ H₀) f2 tt2)
   (he:∀ C fp s₀ H₀,PE (cxC X ts M scope C fp s₀ H₀) elt te) (hs:∀ x,foldedSetIterable iter X.env x=pure x:=by intro _;rfl) (hs2:∀ env x,foldedSetIterable i2 env x=pure x:=by intro _ _;rfl):PE X (.ListComp elt [⟨tg,iter,ifs,0⟩,⟨t2,i2,f2,0⟩] scope pos) (tLC2 ts.length n2 wi g tt wi2 g2 tt2 te):=by
 intro pins s σ H Q I h
 rw[eval_ListComp]
 refine wpAny_comprehension_free (use:=none) rfl hs (qk2 (c.has I.ok)) c.kind c.loc (thn (hi pins s σ H _ I h) fun v s1 h1=>thn h1 fun itv s2 h2=> ?_)
 obtain ⟨it,fp,tn,J,H2,rfl,I2,T,t0,f0,hw⟩:=h2
 refine qxw (RR:=fun acc C=>compPost (model X.prog X.w) X.A X.xe none (EP X pins σ Q) acc C) hn2 c hc hg hf hi2 hg2 hf2 he hs2 I2 T t0 f0 hw ?_
 intro D C H' s' ys m I' hn n1 n2 n3 n4 n5 hD fin
 exact⟨m,hn,fun h' hs'=>⟨.ref D,_,I'.turned (t':=s'.toks) (fun b o hb e=>(hs'.2 b hb).trans e) n4 n1 (.inr n3) n2 n5,rfl,fin D hD⟩⟩
end
end L2
namespace T3
open PySem PySem.Spec PyProof.Rows L2
noncomputable def qj7 (src:Src) (n n2:Nat) (hd:D→Env→M Env) (fi2:MI) (hd2:D→Env→M Env) (cond2:Env→M Bool) (elt:Env→M D) (Γ:Env):List D→List D→M (List D)
 | acc,[]=>M.bind (guard src) fun _=>M.pure acc
 | acc,d::ds=>M.bind (guard src) fun _=>M.bind (hd d (List.replicate n none++Γ)) fun Γ1=>M.bind (fi2 Γ1) fun r =>
   if decide (acc.length+r.1.length < sizeLine)then M.bind (lcA r.2 n2 hd2 cond2 elt (Γ1.drop n2) acc r.1) fun acc'=>(if decide (acc'.length < sizeLine)then qj7 src n n2 hd fi2 hd2 cond2 elt Γ acc' ds else M.fail)else M.fail
noncomputable def q70 (n n2:Nat) (fi:MI) (hd:D→Env→M Env) (fi2:MI) (hd2:D→Env→M Env) (cond2:Env→M Bool) (elt:Env→M D) (Γ:Env):M D :=
 M.bind (fi Γ) fun r=>M.bind (noErr (qj7 r.2 n n2 hd fi2 hd2 cond2 elt Γ [] r.1)) fun ds=>M.pure (.lst ds)
section
variable {X:Cx} {E E2:XW} {tg it t2 i2 elt:Expr} {f2:List Expr} {fe:Env→M D} {pos:Pos} {fi fi2:MI} {cond2:Env→M Bool} {T T2:List Nat} {hd hd2:D→Env→M Env} {ts Mk:List Str} {scope:Scope}
theorem Rel.drop {w:Wd} {H:Hp} {σ:St} {Γ:Env} (r:Rel w H σ Γ) (n:Nat):Rel w H (σ.drop n) (Γ.drop n):=by
 refine⟨by simp [r.len],fun i d e=> ?_⟩
 rw[List.getElem?_drop]at e ⊢
 exact r.at_ _ d e
theorem q71 {w:Wd} {H:Hp} {σ:St} {Γ:Env} {S:Sto} {src:Src} {items:List D} {J:It} {P:List D→Sto→Wd→Hp→Prop} {n:Nat} {acc0:List D} {ys0:List V} (hT:∀ i ∈ T2,i < n) (hk:qag hd2) (rel:Rel w H σ Γ) (hold:qe w H S) (r0:qb w H acc0 ys0) (wk:Walks J w H src items) (hz:acc0.length+items.length < sizeLine)
   (q:Wp E2 w H (lcA src n hd2 cond2 fe Γ acc0 items S) P) {Fin:List V→Hp→Prop} (hf:∀ ds vs S' w' H',Le w H w' H'→qe w' H' S'→qb w' H' ds vs→P ds S' w' H'→Fin vs H'):LcI J n (tG E2 T2 hd2) (tB E2 cond2) (tD E2 fe) σ H ys0 Fin:=by
 refine⟨fun i m ys H'=>∃ w' S' acc,m=items.length - i∧Le w H w' H'∧qe w' H' S'∧qb w' H' acc ys∧acc.length≤acc0.length+i∧i≤items.length∧Wp E2 w' H' (lcA src n hd2 cond2 fe Γ acc (items.drop i) S') P,⟨_,w,S,acc0,rfl,Le.refl _ _,hold,r0,by omega,Nat.zero_le _,q⟩,?_⟩
 rintro i m ys H' ⟨w',S',acc,rfl,l,hh,r,hl,hi,q⟩
 refine⟨by rw[← r.length];omega,?_⟩
 by_cases hi':i < items.length
 · right
   rw[List.drop_eq_getElem_cons hi',lcA]at q
   obtain ⟨so,q⟩:=qa2 q
   refine⟨wk.go w' H' S' i l hh so hi',_,fun ys' H'' z=>⟨items.length - (i+1),by omega,z⟩,fun x H'' y=> ?_⟩
   obtain ⟨w3,d,e3,l3,h3,r3⟩:=wk.yld w' H' S' i x H'' l hh so hi' y
   have:d=items[i]:=by rw[List.getElem?_eq_getElem hi']at e3;exact(Option.some.inj e3).symm
   subst this
   have q3:=Wp.bind (q.later l3)
   refine⟨w3,items[i],_,S',(rel.mono (l.trans l3)).cons n,h3,r3,?_⟩
   cases e4:hd2 items[i] (List.replicate n none++Γ) S' with
   | no=>rw[e4]at q3;exact q3
   | err x S4=>rw[e4]at q3;exact q3
   | ok Γ4 S4 =>
     rw[e4]at q3
     have hlen:Γ4.length=n+Γ.length:=by rw[hk _ _ _ _ _ e4];simp
     intro w4 H4 l4 h4 σ4 rel4 b4
     have q4:=q3 w4 H4 l4 h4
     refine⟨rel4.undrop hT b4 (by rw[← rel4.len,hlen,rel.len]),?_⟩
     refine qcy (k:=fun b Γ1=>if b=true then M.bind (fe Γ1) fun y=>lcA src n hd2 cond2 fe Γ (acc++[y]) (items.drop (i+1))else lcA src n hd2 cond2 fe Γ acc (items.drop (i+1))) rel4 h4 q4 fun bb S5 w5 H5 l5 rel5 h5 q5=> ?_
     have ll:=(l.trans l3).trans (l4.trans l5)
     have rr:=r.mono (l3.trans (l4.trans l5))
     cases bb with
     | true =>
       rw[if_pos rfl]
       refine qd (k:=fun y _=>lcA src n hd2 cond2 fe Γ (acc++[y]) (items.drop (i+1))) rel5 h5 q5 fun dy yv S6 w6 H6 l6 rel6 h6 ry q6=> ?_
       exact⟨w6,S6,acc++[dy],rfl,ll.trans l6,h6,(rr.mono l6).append (qb.one ry),by simp;omega,hi',q6⟩
     | false =>
       rw[if_neg Bool.false_ne_true]
       exact⟨w5,S5,acc,rfl,ll,h5,rr,by omega,hi',q5⟩
 · left
   have:i=items.length:=by omega
   subst this
   rw[List.drop_length,lcA]at q
   obtain ⟨so,q⟩:=qa2 q
   exact⟨wk.stop w' H' S' l hh so,hf acc ys S' w' H' l hh r (q _ _ (Le.refl _ _) hh)⟩
theorem q72 {w:Wd} {H:Hp} {σ:St} {Γ:Env} {S:Sto} {src:Src} {items:List D} {J:It} {P:List D→Sto→Wd→Hp→Prop} {n n2:Nat} (hT:∀ i ∈ T,i < n) (hk:qag hd) (hT2:∀ i ∈ T2,i < n2) (hk2:qag hd2) (rel:Rel w H σ Γ) (hold:qe w H S) (wk:Walks J w H src items)
   (q:Wp E2 w H (qj7 src n n2 hd fi2 hd2 cond2 fe Γ [] items S) P) {Fin:List V→Hp→Prop} (hf:∀ ds vs S' w' H',Le w H w' H'→qe w' H' S'→qb w' H' ds vs→P ds S' w' H'→Fin vs H'):LcO J n n2 (tG E2 T hd) (tB E2 fun _=>M.pure true) (tI E2 fi2) (tG E2 T2 hd2) (tB E2 cond2) (tD E2 fe) σ H Fin:=by
 refine⟨fun i m ys H'=>∃ w' S' acc,m=items.length - i∧Le w H w' H'∧qe w' H' S'∧qb w' H' acc ys∧acc.length < sizeLine∧i≤items.length∧Wp E2 w' H' (qj7 src n n2 hd fi2 hd2 cond2 fe Γ acc (items.drop i) S') P,⟨_,w,S,[],rfl,Le.refl _ _,hold,rfl,by rw[sizeLine_eq];decide,Nat.zero_le _,q⟩,?_⟩
 rintro i m ys H' ⟨w',S',acc,rfl,l,hh,r,hl,hi,q⟩
 refine⟨by rw[← r.length];exact hl,?_⟩
 by_cases hi':i < items.length
 · right
   rw[List.drop_eq_getElem_cons hi',qj7]at q
   obtain ⟨so,q⟩:=qa2 q
   refine⟨wk.go w' H' S' i l hh so hi',_,fun ys' H'' z=>⟨items.length - (i+1),by omega,z⟩,fun x H'' y=> ?_⟩
   obtain ⟨w3,d,e3,l3,h3,r3⟩:=wk.yld w' H' S' i x H'' l hh so hi' y
   have:d=items[i]:=by rw[List.getElem?_eq_getElem hi']at e3;exact(Option.some.inj e3).symm
   subst this
   have q3:=Wp.bind (q.later l3)
   refine⟨w3,items[i],_,S',(rel.mono (l.trans l3)).cons n,h3,r3,?_⟩
   cases e4:hd items[i] (List.replicate n none++Γ) S' with
   | no=>rw[e4]at q3;exact q3
   | err x S4=>rw[e4]at q3;exact q3
   | ok Γ4 S4 =>
     rw[e4]at q3
     have hlen:Γ4.length=n+Γ.length:=by rw[hk _ _ _ _ _ e4];simp
     intro w4 H4 l4 h4 σ4 rel4 b4
     have q4:=q3 w4 H4 l4 h4
     refine⟨rel4.undrop hT b4 (by rw[← rel4.len,hlen,rel.len]),?_⟩
     refine⟨w4,Γ4,S4,rel4,h4,fun w5 H5 l5 h5=> ?_⟩
     dsimp only
     rw[if_pos rfl]
     refine⟨w5,Γ4,S4,rel4.mono l5,h5,(Wp.bind (q4.later l5)).mono fun r2 S6 w6 H6 l6 h6 q6 J2 wk2=> ?_⟩
     obtain ⟨hz,q6⟩:=Wp.iteF q6
     have ll:=(l.trans l3).trans (l4.trans (l5.trans l6))
     refine q71 hT2 hk2 ((rel4.mono (l5.trans l6)).drop n2) h6 (r.mono (l3.trans (l4.trans (l5.trans l6)))) wk2 (of_decide_eq_true hz) (Wp.bind q6) fun ds vs S7 w7 H7 l7 h7 rv q7=> ?_
     obtain ⟨hz7,q7⟩:=Wp.iteF q7
     exact⟨w7,S7,ds,rfl,ll.trans l7,h7,rv,of_decide_eq_true hz7,hi',q7⟩
 · left
   have:i=items.length:=by omega
   subst this
   rw[List.drop_length,qj7]at q
   obtain ⟨so,q⟩:=qa2 q
   exact⟨wk.stop w' H' S' l hh so,hf acc ys S' w' H' l hh r (q _ _ (Le.refl _ _) hh)⟩
theorem qaa9 {n2:Nat} (hn2:n2≤ts.length) (cc:qav X ts Mk scope) (hc:X.calm=true) (hi:PI X tg it (tI E fi)) (hg:∀ C fp s₀ H₀,PG (cxC X ts Mk scope C fp s₀ H₀) tg (tG E2 T hd)) (hi2:∀ C fp s₀ H₀,PI (cxC X ts Mk scope C fp s₀ H₀) t2 i2 (tI E2 fi2))
   (hg2:∀ C fp s₀ H₀,PG (cxC X ts Mk scope C fp s₀ H₀) t2 (tG E2 T2 hd2)) (hf2:∀ C fp s₀ H₀,PF (cxC X ts Mk scope C fp s₀ H₀) f2 (tB E2 cond2))
   (he:∀ C fp s₀ H₀,PE (cxC X ts Mk scope C fp s₀ H₀) elt (tD E2 fe)) (hs:∀ x,foldedSetIterable it X.env x=pure x) (hs2:∀ env x,foldedSetIterable i2 env x=pure x) (hT:∀ i ∈ T,i < ts.length) (hk:qag hd) (hT2:∀ i ∈ T2,i < n2) (hk2:qag hd2) :
   PE X (.ListComp elt [⟨tg,it,[],0⟩,⟨t2,i2,f2,0⟩] scope pos) (tD E (q70 ts.length n2 fi hd fi2 hd2 cond2 fe)):=by
 refine PE.mono (q7z hn2 cc hc hi hg (fun _ _ _ _=>q4r (E:=E2)) hi2 hg2 hf2 he hs hs2) fun σ H Q ⟨w,Γ,S,rel,hold,q⟩=> ?_
 refine⟨w,Γ,S,rel,hold,(Wp.bind q).mono fun r S1 w1 H1 l1 h1 q1 J wk=> ?_⟩
 exact q72 hT hk hT2 hk2 (rel.mono l1) h1 wk (Wp.noErr (Wp.bind q1)) fun ds vs S' w' H' l' h' rv q' D hD=>qaw (new:=false) h' rv q' hD
end
noncomputable def xw (E':XK):XW:=fun x _ H=>∀ dx vs,H dx=some (.xd (x.fs.zip vs))→(∃ w,qb w H x.xs vs)→E' (.ref x.C) (some dx) H
noncomputable abbrev Fd:=List D→M D
noncomputable def spT (n:Nat) (F:Fd):Sp:=fun vs H Q E'=>∃ w ds S,qb w H ds vs∧qe w H S∧ds.length=n∧Wp (xw E') w H (F ds S) (PV Q)
structure FnT (CX:CXT) (P:Program) (w:World) (K:PySem.W.Frag) (mg:Str→Option Value) (base:Heap) (x:Str) (n k:Nat) (F:Fd):Prop where
 ex:∃ (f:Addr) (fd:FuncData) (ps:List Str),qef P w K mg base CX k f fd ps (spT n F)∧mg x=some (.ref f)∧PySem.W.keepIn K (.ref f)=true∧Binds K fd ps []
noncomputable def qv (n:Nat) (F:Fd) (ds:List D):M D:=if ds.length=n then F ds else M.fail
section
variable {X:Cx} {CX:CXT} {E':XK} {x:Str} {n k k':Nat} {F:Fd} {p pos:Pos} {e:Expr} {es:List Expr} {fs:Env→M (List D)}
theorem q73 (G:FnT CX X.prog X.w X.K X.mg X.base x n k F) (hr:qct k' X.A) (hk:k≤k') (hg:Gl X x) (hx:Passes CX X E') (ha:PA X (e::es) (tL (xw E') fs)) (hdb:(x==("__debug__":Str))=false)
   (he:starEach (e::es) X.env=(false,eval e X.env)::starEach es X.env) (hpl:(backTo pos (starEach es X.env)).any (·.1)=false):PE X (.Call (.Name x p) (e::es) [] pos) (tD (xw E') fun Γ=>M.bind (fs Γ) (qv n F)):=by
 obtain ⟨f,fd,ps,FO,hm,hkp,hb⟩:=G.ex
 refine PE.mono (qvl FO (hr.mono hk) hg hm hkp hb .nil hx ha hdb he hpl) fun σ H Q ⟨w,Γ,S,rel,hold,q⟩=> ?_
 refine qbw (k:=fun ds _=>qv n F ds) rel hold q fun ds vs S1 w1 H1 l1 rel1 h1 rv q1=> ?_
 unfold qv at q1
 by_cases hn:ds.length=n
 · rw[if_pos hn]at q1
   exact⟨w1,ds,S1,by rw[List.append_nil];exact rv,h1,hn,q1⟩
 · rw[if_neg hn]at q1;exact False.elim q1
theorem q23 (G:FnT CX X.prog X.w X.K X.mg X.base x 0 k F) (hr:qct k' X.A) (hk:k≤k') (hg:Gl X x) (hx:Passes CX X E') (hdb:(x==("__debug__":Str))=false):PE X (.Call (.Name x p) [] [] pos) (tD (xw E') fun _=>F []):=by
 obtain ⟨f,fd,ps,FO,hm,hkp,hb⟩:=G.ex
 refine PE.mono (qys FO (hr.mono hk) hg hm hkp hb .nil hx hdb) fun σ H Q ⟨w,Γ,S,rel,hold,q⟩=> ?_
 exact⟨w,[],S,rfl,hold,rfl,q⟩
end
noncomputable def qbi (body:MS) (m:Nat) (ds:List D):M D:=fun S=>match body (ds.map some++List.replicate m none) S with
 | .ok (.rt d,_) S'=>.ok d S'
 | .ok (.nx,_) S'=>.ok .non S'
 | .ok _ _=>.no
 | .err x S'=>.err x S'
 | .no=>.no
section
variable {P:Program} {w:World} {K:PySem.W.Frag} {mg:Str→Option Value} {base:Heap}
theorem Rel.start {w:Wd} {H:Hp} {ds:List D} {vs:List V} {m:Nat} (r:qb w H ds vs):Rel w H (vs.map some++List.replicate m none) (ds.map some++List.replicate m none):=by
 refine⟨by simp [r.length],fun i d e=> ?_⟩
 by_cases hi:i < ds.length
 · rw[List.getElem?_append_left (by simpa using hi),List.getElem?_map]at e
   have e':ds[i]? =some d:=by
     cases q:ds[i]? with
     | none=>rw[q]at e;cases e
     | some d'=>rw[q]at e;simp at e;rw[e]
   obtain ⟨v,h1,h2⟩:=r.get e'
   refine⟨v,?_,h2⟩
   rw[List.getElem?_append_left (by simp;rw[← r.length];exact hi),List.getElem?_map,h1]
   rfl
 · rw[List.getElem?_append_right (by simp;omega)]at e
   simp only [List.length_map]at e
   rw[List.getElem?_replicate]at e
   split at e <;> cases e
theorem q74 {E:XW} {w:Wd} {H:Hp} {S:Sto} {body:MS} {m:Nat} {ds:List D} {Q:VK} (q:Wp E w H (qbi body m ds S) (PV Q)):Wp E w H (body (ds.map some++List.replicate m none) S) (qca { nx:=fun _ H'=>Q .non H',rt:=Q }):=by
 unfold qbi at q
 cases e:body (ds.map some++List.replicate m none) S with
 | no=>rw[e]at q;exact q
 | err x S'=>rw[e]at q;exact q
 | ok r S' =>
   rw[e]at q
   obtain ⟨fl,Γ⟩:=r
   cases fl with
   | nx=>exact fun w' H' l h σ _=>q w' H' l h .non rfl
   | rt d=>exact fun w' H' l h v rv=>q w' H' l h v rv
   | bk=>exact False.elim q
   | ct=>exact False.elim q
theorem fn_T {x qual:Str} {st:Stmt} {f:Addr} {fd:FuncData} {N ps:List Str} {k:Nat} {body:MS} (F:Fun K x qual st f fd) (S:qcv N ps (qf st))
   (hb:∀ (cdv:Value) (A:Around) (outer:List PySem.Env) (s:Shared) (H:Hp) (E:XK),qct k (A.deeper (envOfC qual (qf st) s.heap.objs.size f cdv))→PSs (qm3 CX0 P w K mg base N qual (qf st) f cdv A outer s H E).nox (qa1 st) (tS (xw E) body)) :
   qef P w K mg base CX0 (k+1) f fd ps (spT ps.length (qbi body (N.length - ps.length))):=by
 refine F.ok S (fun vs H Q E h=> ?_) (fun cdv A outer s H vs Q E hr h=> ?_)
 · obtain ⟨w,ds,S,r,_,e,_⟩:=h
   rw[← r.length];exact e
 · obtain ⟨w,ds,S,r,hold,e,q⟩:=h
   refine⟨_,hb cdv A outer s H E hr,w,_,S,?_,hold,q74 q⟩
   have:=Rel.start (m:=N.length - ps.length) r
   unfold L2.start
   rw[← r.length,e]
   exact this
end
mutual
noncomputable def frz:Nat→D→Sto→Option (D × Sto)
 | 0,d,S=>match d with
   | .ref _=>none
   | d=>some (d,S)
 | n + 1,d,S=>match d with
   | .ref l=>match S[l]? with
     | some (.lst xs)=>match frzs n xs S with
       | some (ys,S')=>some (.lst ys,S'.set l .gone)
       | none=>none
     | some (.dct ks xs)=>match frzs n xs S with
       | some (ys,S')=>some (.dct ks ys,S'.set l .gone)
       | none=>none
     | some (.obj C fs xs)=>match frzs n xs S with
       | some (ys,S')=>some (.obj C fs ys,S'.set l .gone)
       | none=>none
     | _=>none
   | d=>some (d,S)
noncomputable def frzs:Nat→List D→Sto→Option (List D × Sto)
 | _,[],S=>some ([],S)
 | n,d::ds,S=>match frz n d S with
   | some (e,S')=>match frzs n ds S' with
     | some (es,S'')=>some (e::es,S'')
     | none=>none
   | none=>none
end
noncomputable def qd3 (d:D):M D:=fun S=>match frz 3 d S with
 | some (e,S')=>.ok e S'
 | none=>.no
theorem qkq {n:Nat} {H:Hp} (hf:∀ {d e:D} {S S':Sto} {w:Wd} {v:V},frz n d S=some (e,S')→qe w H S→Rep w H d v→∃ w',Le w H w' H∧qe w' H S'∧Rep w' H e v) :
   ∀ {ds es:List D} {S S':Sto} {w:Wd} {vs:List V},frzs n ds S=some (es,S')→qe w H S→qb w H ds vs→∃ w',Le w H w' H∧qe w' H S'∧qb w' H es vs
 | [],es,S,S',w,vs,e,h,r=>by
   rw[frzs]at e
   cases e
   exact⟨w,Le.refl _ _,h,r⟩
 | d ::ds,es,S,S',w,vs,e,h,⟨v,u,ev,r,t⟩=>by
   rw[frzs]at e
   cases e1:frz n d S with
   | none=>rw[e1]at e;cases e
   | some p =>
     obtain ⟨d1,S1⟩:=p
     rw[e1]at e
     dsimp only at e
     cases e2:frzs n ds S1 with
     | none=>rw[e2]at e;cases e
     | some p =>
       obtain ⟨ds1,S2⟩:=p
       rw[e2]at e
       cases e
       obtain ⟨w1,l1,h1,r1⟩:=hf e1 h r
       obtain ⟨w2,l2,h2,r2⟩:=qkq hf e2 h1 (t.mono l1)
       exact⟨w2,l1.trans l2,h2,v,u,ev,r1.mono l2,r2⟩
theorem qli {H:Hp}:∀ {n:Nat} {d e:D} {S S':Sto} {w:Wd} {v:V},frz n d S=some (e,S')→qe w H S→Rep w H d v→∃ w',Le w H w' H∧qe w' H S'∧Rep w' H e v
 | 0,d,e,S,S',w,v,q,h,r=>by
   cases d <;> simp only [frz]at q <;> first | (cases q;done) | (cases q;exact⟨w,Le.refl _ _,h,r⟩)
 | n + 1,d,e,S,S',w,v,q,h,r=>by
   cases d <;> simp only [frz]at q <;> first | (cases q;exact⟨w,Le.refl _ _,h,r⟩) | skip
   case ref l =>
     obtain ⟨a,ea,rfl⟩:=r
     cases e0:S[l]? with
     | none=>rw[e0]at q;cases q
     | some c =>
       rw[e0]at q
       have ce:=h.cell l a c ea e0
       cases c with
       | gone=>cases q
       | lst xs =>
         dsimp only at q
         cases e1:frzs n xs S with
         | none=>rw[e1]at q;cases q
         | some p =>
           obtain ⟨ys,S1⟩:=p
           rw[e1]at q
           cases q
           obtain ⟨_,vs,k1,k2⟩:=ce
           obtain ⟨w1,l1,h1,r1⟩:=qkq (fun {d e S S' w v} q h r=>qli (n:=n) q h r) e1 h k2
           exact⟨w1.fix a,l1.trans (qc5 w1 H a),qgj h1 (l1.at_ ea),a,vs,rfl,.inl rfl,k1,r1.mono (qc5 w1 H a)⟩
       | dct ks xs =>
         dsimp only at q
         cases e1:frzs n xs S with
         | none=>rw[e1]at q;cases q
         | some p =>
           obtain ⟨ys,S1⟩:=p
           rw[e1]at q
           cases q
           obtain ⟨_,vs,k1,k3,k2⟩:=ce
           obtain ⟨w1,l1,h1,r1⟩:=qkq (fun {d e S S' w v} q h r=>qli (n:=n) q h r) e1 h k2
           exact⟨w1.fix a,l1.trans (qc5 w1 H a),qgj h1 (l1.at_ ea),a,vs,rfl,.inl rfl,.inl k1,by rw[k3,k2.length,← r1.length],r1.mono (qc5 w1 H a)⟩
       | obj C fs xs =>
         dsimp only at q
         cases e1:frzs n xs S with
         | none=>rw[e1]at q;cases q
         | some p =>
           obtain ⟨ys,S1⟩:=p
           rw[e1]at q
           cases q
           obtain ⟨_,dx,vs,k1,k3,k2⟩:=ce
           obtain ⟨w1,l1,h1,r1⟩:=qkq (fun {d e S S' w v} q h r=>qli (n:=n) q h r) e1 h k2
           exact⟨w1.fix a,l1.trans (qc5 w1 H a),qgj h1 (l1.at_ ea),a,dx,vs,rfl,.inl rfl,k1,by rw[k3,k2.length,← r1.length],r1.mono (qc5 w1 H a)⟩
theorem qaba {X:Cx} {E:XW} {e:Expr} {f:Env→M D} (h:PE X e (tD E f)):PE X e (tD E fun Γ=>M.bind (f Γ) qd3):=by
 refine PE.mono h fun σ H Q ⟨w,Γ,S,rel,hold,q⟩=> ?_
 refine qd (k:=fun d _=>qd3 d) rel hold q fun dx x S1 w1 H1 l1 rel1 h1 rx q1=> ?_
 unfold qd3 at q1
 cases e1:frz 3 dx S1 with
 | none=>rw[e1]at q1;exact False.elim q1
 | some p =>
   obtain ⟨d1,S2⟩:=p
   rw[e1]at q1
   obtain ⟨w2,l2,h2,r2⟩:=qli e1 h1 rx
   exact q1 w2 H1 l2 h2 x r2
noncomputable def ghS (i:Nat) (f:MS):MS:=fun Γ=>M.bind (qfd i Γ) fun x=>M.bind (qd3 x) fun d=>f (Γ.set i (some d))
theorem s_gh {X:Cx} {E:XW} {ss:List Stmt} {f:MS} {i:Nat} (h:PSs X ss (tS E f)):PSs X ss (tS E (ghS i f)):=by
 refine PSs.mono h fun D σ H ⟨w,Γ,S,rel,hold,q⟩=> ?_
 unfold ghS qfd at q
 cases e:Γ[i]? with
 | none=>rw[e]at q;exact False.elim q
 | some o =>
   cases o with
   | none=>rw[e]at q;exact False.elim q
   | some x =>
     rw[e]at q
     obtain ⟨v,hv,rv⟩:=rel.at_ i x e
     have q:Wp E w H (M.bind (qd3 x) (fun d=>f (Γ.set i (some d))) S) (qca D):=q
     unfold M.bind qd3 at q
     cases e1:frz 3 x S with
     | none=>rw[e1]at q;exact False.elim q
     | some p =>
       obtain ⟨d1,S2⟩:=p
       rw[e1]at q
       obtain ⟨w2,l2,h2,r2⟩:=qli e1 hold rv
       refine⟨w2,Γ.set i (some d1),S2,?_,h2,Wp.later q l2⟩
       have:=(rel.mono l2).set (i:=i) r2
       have es:σ.set i (some v)=σ:=by
         obtain ⟨hl,e⟩:=List.getElem?_eq_some_iff.mp hv
         rw[← e];exact List.set_getElem_self hl
       rwa [es]at this
noncomputable def isL (d:D):Bool:=match d with
 | .lst _=>true
 | _=>false
noncomputable def isS (d:D):Bool:=match d with
 | .str _=>true
 | _=>false
noncomputable def mtD (isT:D→Bool) (f:Env→M D) (fs:Env→M (List D)) (k:D→List D→M D) (Γ:Env):M D:=M.bind (f Γ) fun o S=>(if isT (look o S)then M.bind (fs Γ) (k o)else M.fail) S
noncomputable def MtT (X:Cx) (id:String) (k:D→List D→M D):Prop:=∃ r:V→List V→Hp→VK→Prop,MtM X id r∧∀ (E:XW) w H S o ds x vs Q,qe w H S→Rep w H o x→qb w H ds vs→Wp E w H (k o ds S) (PV Q)→r x vs H Q
section
variable {X:Cx} {E:XW} {T id:String} {name:Str} {o e:Expr} {es:List Expr} {f:Env→M D} {fs:Env→M (List D)} {k:D→List D→M D} {apos cpos:Pos} {isT:D→Bool}
theorem qxx (pa:PlainAttrs T) (slot:Slot T name id) (hty:typeOf (.builtin id)=pure (.type "method_descriptor")) (hm:MtT X id k) (hT:∀ w H S d v,qe w H S→Rep w H d v→isT (look d S)=true→tyV X.K T v H) (ho:PE X o (tD E f)) (ha:PA X (e::es) (tL E fs))
   (hbase:attributeBase o name X.env (eval o X.env)=eval o X.env)
   (hfew:((backTo cpos (starEach (e::es) X.env)).all (fun x=> !x.1) && (backToKw cpos (keywordEach [] X.env)).all (fun x=>x.1.isSome) && decide ((e::es).length+([]:List Keyword).length+(if ([]:List Keyword).isEmpty then 0 else 1) < 30))=true)
   (hline:(apos.endLine==cpos.line)=true) (hs:starEach (e::es) X.env=(false,eval e X.env)::starEach es X.env) (hplain:(backTo cpos (starEach es X.env)).any (·.1)=false) :
   PE X (.Call (.Attribute o name apos) (e::es) [] cpos) (tD E (mtD isT f fs k)):=by
 obtain ⟨r,hmt,hk⟩:=hm
 refine PE.mono (q95 pa slot hty hmt ho ha hbase hfew hline hs hplain) fun σ H Q ⟨w,Γ,S,rel,hold,q⟩=> ?_
 refine qd (k:=fun o Γ S=>(if isT (look o S)then M.bind (fs Γ) (k o)else M.fail) S) rel hold q fun dx x S1 w1 H1 l1 rel1 h1 rx q1=> ?_
 obtain ⟨ht,q1⟩:=Wp.iteF q1
 exact⟨hT w1 H1 S1 dx x h1 rx ht,qbw (k:=fun ds _=>k dx ds) rel1 h1 q1 fun ds vs S2 w2 H2 l2 rel2 h2 rv q2=>hk E w2 H2 S2 dx ds x vs Q h2 (rx.mono l2) rv q2⟩
theorem qor (pa:PlainAttrs T) (slot:Slot T name id) (hty:typeOf (.builtin id)=pure (.type "method_descriptor")) (hm:MtT X id k) (hT:∀ w H S d v,qe w H S→Rep w H d v→isT (look d S)=true→tyV X.K T v H) (ho:PE X o (tD E f))
   (hbase:attributeBase o name X.env (eval o X.env)=eval o X.env) (hline:(apos.endLine==cpos.line)=true) :
   PE X (.Call (.Attribute o name apos) [] [] cpos) (tD E (mtD isT f (fun _=>M.pure []) k)):=by
 obtain ⟨r,hmt,hk⟩:=hm
 refine PE.mono (q58 pa slot hty hmt ho hbase hline) fun σ H Q ⟨w,Γ,S,rel,hold,q⟩=> ?_
 refine qd (k:=fun o Γ S=>(if isT (look o S)then M.bind (M.pure []) (k o)else M.fail) S) rel hold q fun dx x S1 w1 H1 l1 rel1 h1 rx q1=> ?_
 obtain ⟨ht,q1⟩:=Wp.iteF q1
 exact⟨hT w1 H1 S1 dx x h1 rx ht,hk E w1 H1 S1 dx [] x [] Q h1 rx rfl q1⟩
theorem qne (w:Wd) (H:Hp) (S:Sto) (d:D) (v:V) (h:qe w H S) (r:Rep w H d v) (e:isL (look d S)=true):tyV X.K "list" v H:=by
 cases e1:look d S <;> rw[e1]at e <;> first | (cases e;done) | skip
 obtain ⟨p,vs,rfl,hp,_⟩:=qj h r e1
 exact .inl ⟨rfl,vs,SqL.of hp⟩
theorem ty_S (w:Wd) (H:Hp) (S:Sto) (d:D) (v:V) (h:qe w H S) (r:Rep w H d v) (e:isS (look d S)=true):tyV X.K "str" v H:=by
 cases e1:look d S <;> rw[e1]at e <;> first | (cases e;done) | skip
 rw[qbv r e1]
 rfl
noncomputable def qbo (o:D) (g:List D→Option (D × List D)):M D:=fun S=>match o with
 | .ref l=>match S[l]? with
   | some (.lst xs)=>match g xs with
     | some (d,ys)=>.ok d (S.set l (.lst ys))
     | none=>.no
   | _=>.no
 | _=>.no
theorem qf0 {w:Wd} {H:Hp} {S:Sto} {o:D} {x:V} {g:List D→Option (D × List D)} {Q:VK} (h:qe w H S) (r:Rep w H o x) (q:Wp E w H (qbo o g S) (PV Q)) :
   ∃ a xs vs d ys,x=.ref a∧H a=some (.lst vs)∧qb w H xs vs∧g xs=some (d,ys)∧∀ us,qb w H ys us→∀ v,Rep w H d v→Q v (upd H a (.lst us)):=by
 unfold qbo at q
 cases o <;> first | exact False.elim q | skip
 rename_i l
 dsimp only at q
 obtain ⟨a,ea,rfl⟩:=r
 cases e:S[l]? with
 | none=>rw[e]at q;exact False.elim q
 | some c =>
   rw[e]at q
   have ce:=h.cell l a c ea e
   cases c <;> first | exact False.elim q | skip
   rename_i xs
   dsimp only at q
   cases e1:g xs with
   | none=>rw[e1]at q;exact False.elim q
   | some p =>
     obtain ⟨d,ys⟩:=p
     rw[e1]at q
     obtain ⟨nz,vs,ha,hvs⟩:=ce
     exact⟨a,xs,vs,d,ys,rfl,ha,hvs,e1,fun us hu v rv=>q _ _ (qbh nz) (qgi h ea nz ⟨nz,us,qi,hu.mono (qbh nz)⟩) v (rv.mono (qbh nz))⟩
noncomputable def qpt (o:D) (ds:List D):M D:=match ds with
 | [d]=>qbo o fun xs=>if decide (xs.length < sizeLine)then some (.non,xs++[d])else none
 | _=>M.fail
theorem qlj:MtT X "list.append" qpt:=by
 refine⟨_,qxa,fun E w H S o ds x vs Q h r rv q=> ?_⟩
 unfold qpt at q
 split at q
 case h_2=>exact False.elim q
 case h_1 d =>
   obtain ⟨v,rfl,rd⟩:=rv.one_
   obtain ⟨a,xs,us,d',ys,rfl,ha,hus,e,k⟩:=qf0 h r q
   split at e
   · rename_i hz
     cases e
     exact⟨a,us,v,rfl,rfl,ha,by rw[← hus.length];exact of_decide_eq_true hz,k _ (hus.append (qb.one rd)) _ rfl⟩
   · cases e
noncomputable def qpu (o:D) (ds:List D):M D:=match ds with
 | [.int j,d]=>qbo o fun xs=>if decide (xs.length < sizeLine) && decide (0≤j) && decide (j≤xs.length)then some (.non,xs.take j.toNat++d::xs.drop j.toNat)else none
 | _=>M.fail
theorem qlk:MtT X "list.insert" qpu:=by
 refine⟨_,qxn,fun E w H S o ds x vs Q h r rv q=> ?_⟩
 unfold qpu at q
 split at q
 case h_2=>exact False.elim q
 case h_1 j d =>
   obtain ⟨v,v',rfl,rj,rd⟩:=rv.two_
   cases (show v=.int j from rj)
   obtain ⟨a,xs,us,d',ys,rfl,ha,hus,e,k⟩:=qf0 h r q
   split at e
   · rename_i hz
     rw[Bool.and_eq_true,Bool.and_eq_true]at hz
     cases e
     refine⟨a,us,j,v',rfl,rfl,of_decide_eq_true hz.1.2,?_,ha,by rw[← hus.length];exact of_decide_eq_true hz.1.1,k _ ((hus.take _).append (qb.cons rd (hus.drop _))) _ rfl⟩
     rw[← hus.length];exact of_decide_eq_true hz.2
   · cases e
noncomputable def q75 (o:D) (ds:List D):M D:=match ds with
 | []=>qbo o fun xs=>match xs.getLast? with
   | some d=>some (d,xs.dropLast)
   | none=>none
 | _=>M.fail
theorem qb.dropLast {w:Wd} {H:Hp} {ds:List D} {vs:List V} (h:qb w H ds vs):qb w H ds.dropLast vs.dropLast:=by
 rw[List.dropLast_eq_take,List.dropLast_eq_take,h.length]
 exact h.take _
theorem qv3:MtT X "list.pop" q75:=by
 refine⟨_,q59,fun E w H S o ds x vs Q h r rv q=> ?_⟩
 unfold q75 at q
 split at q
 case h_2=>exact False.elim q
 case h_1 =>
   cases rv.nil_
   obtain ⟨a,xs,us,d',ys,rfl,ha,hus,e,k⟩:=qf0 h r q
   split at e
   · rename_i d hd
     cases e
     rw[List.getLast?_eq_getElem?]at hd
     obtain ⟨y,e1,e2⟩:=hus.get hd
     exact⟨a,us,y,rfl,rfl,ha,by rw[← hus.length];exact e1,k _ hus.dropLast _ e2⟩
   · cases e
noncomputable def quo (o:D) (ds:List D):M D:=match ds with
 | []=>qbo o fun _=>some (.non,[])
 | _=>M.fail
theorem qos:MtT X "list.clear" quo:=by
 refine⟨_,qyx,fun E w H S o ds x vs Q h r rv q=> ?_⟩
 unfold quo at q
 split at q
 case h_2=>exact False.elim q
 case h_1 =>
   cases rv.nil_
   obtain ⟨a,xs,us,d',ys,rfl,ha,hus,e,k⟩:=qf0 h r q
   cases e
   exact⟨a,us,rfl,rfl,ha,k _ rfl _ rfl⟩
noncomputable def joinM (o:D) (ds:List D):M D:=match o,ds with
 | .str z,[d]=>fun S=>match look d S with
   | .lst xs=>match strsOf xs with
     | some ys=>(if decide ((ys.map (·.length)).sum+ys.length * z.length≤16777216)then M.pure (.str (PySem.Txt.join z ys))else M.fail) S
     | none=>.no
   | _=>.no
 | _,_=>M.fail
theorem qr7:MtT X "str.join" joinM:=by
 refine⟨_,q2r,fun E w H S o ds x vs Q h r rv q=> ?_⟩
 unfold joinM at q
 split at q
 case h_2=>exact False.elim q
 case h_1 z d =>
   obtain ⟨v,rfl,rd⟩:=rv.one_
   cases e1:look d S <;> rw[e1]at q <;> first | exact False.elim q | skip
   rename_i xs
   dsimp only at q
   cases e2:strsOf xs with
   | none=>rw[e2]at q;exact False.elim q
   | some ys =>
     rw[e2]at q
     obtain ⟨hz,q⟩:=Wp.iteF q
     obtain ⟨p,us,rfl,hp,hus⟩:=qj h rd e1
     exact⟨z,p,ys,r,rfl,by rw[← qld e2 hus];exact SqL.of hp,of_decide_eq_true hz,now h (d:=.str _) rfl q⟩
end
noncomputable def qr8 (k:Int):List Int→Option Nat
 | []=>none
 | x::r=>if x=k then some 0 else (qr8 k r).map (·+1)
theorem qv4 {k:Int}:∀ {ns:List Int} {j:Nat},qr8 k ns=some j→ns[j]? =some k∧∀ i < j,∀ x,ns[i]? =some x→x ≠ k
 | [],_,h=>by cases h
 | x ::r,j,h=>by
   unfold qr8 at h
   by_cases e:x=k
   · rw[if_pos e]at h;cases h
     exact⟨by simp [e],fun i hi=>by omega⟩
   · rw[if_neg e]at h
     cases e1:qr8 k r with
     | none=>rw[e1]at h;cases h
     | some m =>
       rw[e1]at h;cases h
       obtain ⟨a,b⟩:=qv4 e1
       refine⟨by simpa using a,fun i hi y hy=> ?_⟩
       cases i with
       | zero=>simp at hy;subst hy;exact e
       | succ i=>exact b i (by simp at hi;omega) y (by simpa using hy)
section
variable {X:Cx}
noncomputable def q76:V→List V→Hp→VK→Prop:=fun x vs H Q=>∃ (l:Addr) (ns:List Int) (k:Int) (j:Nat),x=.ref l∧vs=[.int k]∧H l=some (.lst (ns.map V.int))∧qr8 k ns=some j∧Q (.int j) H
noncomputable def isI (k:Int):Value→Bool
 | .int a _=>a==k
 | _=>false
theorem qzu:MtM X "list.index" q76:=by
 intro pins s σ H x vs v us Q I rx rv h
 obtain ⟨l,ns,k,j,rfl,rfl,hH,hj,q⟩:=h
 cases rx
 obtain ⟨u,rfl,ru⟩:=rv.one
 obtain ⟨t,rfl⟩:=ru
 obtain ⟨z,its,n,r,hl,e⟩:=I.lstM hH
 obtain ⟨h1,h2⟩:=qv4 hj
 have hs:sizeLine=16777216:=sizeLine_eq
 have at_:∀ (i:Nat) (y:Value),its[i]? =some y→∃ a t,ns[i]? =some a∧y=.int a t:=fun i y hy=>by
   have hi:i < (ns.map V.int).length:=by rw[hl];exact(List.getElem?_eq_some_iff.mp hy).1
   obtain ⟨y',hy',ry⟩:=r.get (List.getElem?_eq_getElem hi)
   rw[hy]at hy';cases hy'
   rw[List.getElem_map]at ry
   obtain ⟨t,rfl⟩:=ry
   exact⟨_,t,List.getElem?_eq_getElem (by simpa using hi),rfl⟩
 have hjl:j < its.length:=by
   have:=(List.getElem?_eq_some_iff.mp h1).1
   rw[← hl];simpa using this
 refine call_meets PySem.F.slot_list_index ⟨_,e,rfl⟩ PySem.F.entry_list_index (PySem.F.args_list_index_2 _ _) (MeetsSeq.list_index l its.toArray n (.int k t) (isI k) (fun y hy=> ?_) j (by simpa using hjl) (by rw[List.length_map]at z hl;omega) ?_ fun m hm hlt=> ?_) ⟨e,⟨.int j,H,I.tok _,⟨_,rfl⟩,q⟩⟩
 · obtain ⟨i,hi⟩:=List.getElem?_of_mem (by simpa using hy:y ∈ its)
   obtain ⟨a,t',_,rfl⟩:=at_ i y hi
   exact MeetsSeq.EqGives.int a k t' t
 · obtain ⟨a,t',ha,hy⟩:=at_ j its[j] (List.getElem?_eq_getElem hjl)
   rw[h1]at ha;cases ha
   show isI k its[j]=true
   rw[hy];simp [isI]
 · have hm:m < its.length:=by simpa using hm
   obtain ⟨a,t',ha,hy⟩:=at_ m its[m] (List.getElem?_eq_getElem hm)
   show isI k its[m]=false
   rw[hy];simp [isI]
   exact h2 m hlt a ha
noncomputable def qpv (o:D) (ds:List D):M D:=fun S=>match look o S,ds with
 | .lst xs,[.int k]=>match intsOf xs with
   | some ns=>match qr8 k ns with
     | some j=>.ok (.int j) S
     | none=>.no
   | none=>.no
 | _,_=>.no
theorem qot:MtT X "list.index" qpv:=by
 refine⟨_,qzu,fun E w H S o ds x vs Q h r rv q=> ?_⟩
 unfold qpv at q
 split at q
 case h_2=>exact False.elim q
 case h_1 xs k e1 =>
   obtain ⟨v,rfl,rd⟩:=rv.one_
   cases e2:intsOf xs with
   | none=>rw[e2]at q;exact False.elim q
   | some ns =>
     rw[e2]at q
     dsimp only at q
     cases e3:qr8 k ns with
     | none=>rw[e3]at q;exact False.elim q
     | some j =>
       rw[e3]at q
       obtain ⟨p,us,rfl,hp,hus⟩:=qj h r e1
       cases (show v=.int k from rd)
       exact⟨p,ns,k,j,rfl,rfl,by rw[hp,qbn e2 hus],e3,now h (d:=.int _) rfl q⟩
end
noncomputable def notStar:Expr→Bool
 | .Starred _ _=>false
 | _=>true
noncomputable def qcr:Expr→Bool
 | .Set _ _ _=>false
 | _=>true
noncomputable def qd4:Expr→Bool
 | .Slice _ _ _ _=>false
 | _=>true
noncomputable def plainT:Expr→Bool
 | .UnaryOp _ _ _=>false
 | .BoolOp _ _ _=>false
 | .IfExp _ _ _ _=>false
 | .Compare _ _ _ _=>false
 | _=>true
noncomputable def qll:Expr→Bool
 | .Call (.Name _ _) _ _ _=>false
 | _=>true
noncomputable def qf1:Expr→Bool
 | .ListComp _ _ _ _=>false
 | .SetComp _ _ _ _=>false
 | .DictComp _ _ _ _ _=>false
 | _=>true
noncomputable def qpw:Expr→Bool
 | .Tuple _ _ _=>false
 | .List _ _=>false
 | _=>true
theorem qan {e:Expr} {es:List Expr} {env:PySem.Env} (h:notStar e=true):starEach (e::es) env=(false,eval e env)::starEach es env:=by
 cases e <;> first | rfl | cases h
theorem qlm:∀ {es:List Expr} {env:PySem.Env},es.all notStar=true→(starEach es env).all (fun x=> !x.1)=true
 | [],_,_=>rfl
 | e::es,env,h=>by
   rw[List.all_cons,Bool.and_eq_true]at h
   rw[qan h.1,List.all_cons,qlm h.2]
   rfl
theorem qr9 {pos:Pos} {l:List (Bool × Sem Value)} (h:l.all (fun x=> !x.1)=true):(backTo pos l).all (fun x=> !x.1)=true:=by
 unfold backTo
 rw[List.all_map]
 exact h
theorem qln {pos:Pos} {es:List Expr} {env:PySem.Env} (h:es.all notStar=true):(backTo pos (starEach es env)).any (·.1)=false:=by
 have:=qr9 (pos:=pos) (qlm (env:=env) h)
 rw[List.any_eq_false]
 intro x hx
 have:=List.all_eq_true.mp this x hx
 simpa using this
theorem q77 {cpos:Pos} {e:Expr} {es:List Expr} {env:PySem.Env} (h:(e::es).all notStar=true) (hl:(e::es).length < 30) :
   ((backTo cpos (starEach (e::es) env)).all (fun x=> !x.1) && (backToKw cpos (keywordEach [] env)).all (fun x=>x.1.isSome) && decide ((e::es).length+([]:List Keyword).length+(if ([]:List Keyword).isEmpty then 0 else 1) < 30))=true:=by
 rw[qr9 (qlm h)]
 simp only [keywordEach,backToKw,List.map_nil,List.all_nil,Bool.and_true,Bool.true_and,List.length_nil,List.isEmpty_nil,if_true,Nat.add_zero]
 exact decide_eq_true hl
theorem qlo {op:CmpOp} {b:Expr} (h:qcr b=true):behindInMarks op b=false:=by
 cases b <;> first | rfl | cases h
theorem qou {op op':CmpOp} {b c:Expr} (h:qcr c=true):lastMarks [op,op'] [b,c]=false:=by
 show behindInMarks op' c=false
 exact qlo h
theorem qzv {b:Expr} (h:qd4 b=true):qph b:=by
 intro o i
 cases b <;> first | rfl | cases h
theorem q24 {a:Expr} {env:PySem.Env} (h:plainT a=true):∀ whole,isTrue a env whole=(do let v ← whole;standAt a.pos;holding [v] (truthy v)):=by
 intro whole
 cases a <;> first | rfl | cases h
theorem qbl {o:Expr} {name:Str} {env:PySem.Env} (h:qll o=true):attributeBase o name env (eval o env)=eval o env:=by
 unfold attributeBase
 cases o <;> first | rfl | skip
 rename_i fn args kw pos
 cases fn <;> first | rfl | cases h
theorem qcc {it:Expr} {env:PySem.Env} (h:qcr it=true):∀ x,foldedSetIterable it env x=pure x:=by
 intro x
 unfold foldedSetIterable
 cases it <;> first | rfl | cases h
theorem qlp {e:Expr} {t:Option Expr} {n:Nat} {env:PySem.Env} (h:qf1 e=true):swapsWith e t n env=pure false:=by
 unfold swapsWith
 cases e <;> first | rfl | cases h
theorem qv5 {e t:Expr} {n:Nat} {env:PySem.Env} (h:qf1 e=true):swapsWithSole [t] e n env=pure false:=qlp h
theorem qxy {t e:Expr} {env:PySem.Env} (h:(qpw t || qpw e)=true):swappedStores [t] e env=pure none:=by
 unfold swappedStores
 cases t <;> first | rfl | (cases e <;> first | rfl | cases h)
theorem qim {e:Expr} {es:List Expr} {env:PySem.Env} (h:notStar e=true):assignEach (e::es) env=(false,assign e env)::assignEach es env:=by
 cases e <;> first | rfl | cases h
theorem qov:∀ {es:List Expr} {env:PySem.Env},(assignEach es env).length=es.length
 | [],_=>rfl
 | e::es,env=>by
   have:=qov (es:=es) (env:=env)
   cases e <;> simp [assignEach,this]
theorem qsa:∀ {es:List Expr} {env:PySem.Env},es.all notStar=true→(assignEach es env).findIdx? (·.1)=none
 | [],_,_=>rfl
 | e::es,env,h=>by
   rw[List.all_cons,Bool.and_eq_true]at h
   rw[qim h.1,List.findIdx?_cons,qsa h.2]
   rfl
theorem q25 {o i:Expr} {pos:Pos} {env:PySem.Env} (h:qd4 i=true):∀ v,assign (.Subscript o i pos) env v=(do
     let ov ← holding [v] (eval o env)
     let iv ← holding [v,ov] (eval i env)
     standAt pos
     holding [v,ov,iv] (setItem ov iv v)
     release [v,ov,iv] []):=by
 intro v
 cases i <;> first | rfl | cases h
theorem q78 {i:Expr} (h:qd4 i=true):∀ ov iv new,augStore i ov iv new=(do holding [new,ov,iv] (setItem ov iv new);release [new,ov,iv] [];pure .next):=by
 intro ov iv new
 cases i <;> first | rfl | cases h
noncomputable def swB (sc:Scope) (scope:Scope) (vl tl:Nat) (x:Str):Bool :=
 (if sc.kind.isAnnotationScope then ScopeKind.function else sc.kind)==.function && sc.names.lookup x==some .local && tl==vl && !(scope.names.any fun (n,k)=>n==x && (k==.local || k==.cell))
theorem qzw {elt:Expr} {gens:List Comprehension} {scope:Scope} {pos p:Pos} {x:Str} {n:Nat} {env:PySem.Env}:swapsWith (.ListComp elt gens scope pos) (some (.Name x p)) n env=pure (swB env.scope scope pos.line p.line x):=rfl
theorem qv6 {k v:Expr} {gens:List Comprehension} {scope:Scope} {pos p:Pos} {x:Str} {n:Nat} {env:PySem.Env}:swapsWith (.DictComp k v gens scope pos) (some (.Name x p)) n env=pure (swB env.scope scope pos.line p.line x):=rfl
noncomputable def q26 (sc:Scope) (x y:Str) (px py:Pos) (a b:Expr):Bool :=
 (if sc.kind.isAnnotationScope then ScopeKind.function else sc.kind)==.function && notStar a && notStar b && sc.names.lookup x==some .local && sc.names.lookup y==some .local && px.line==py.line && !(x==y) && !([a,b].all (foldedForSure 8)) && !([a,b].all (constantsAlone 8))
theorem q27 {x y:Str} {px py pt pt2:Pos} {a b:Expr} {kt k2:Nat} {env:PySem.Env} (h:q26 env.scope x y px py a b=true):swappedStores [.Tuple [.Name x px,.Name y py] kt pt] (.Tuple [a,b] k2 pt2) env=pure (some [x,y]):=by
 unfold q26 at h
 simp only [Bool.and_eq_true,Bool.not_eq_true']at h
 obtain ⟨⟨⟨⟨⟨⟨⟨⟨h1,h2⟩,h3⟩,h4⟩,h5⟩,h6⟩,h7⟩,h8⟩,h9⟩:=h
 unfold swappedStores
 have hk:env.blockKind=.function:=by simpa [Env.blockKind]using h1
 have hx:env.kindOf x=some .local:=by simpa [Env.kindOf]using h4
 have hy:env.kindOf y=some .local:=by simpa [Env.kindOf]using h5
 have hl:px.line=py.line:=by simpa using h6
 have hxy:x ≠ y:=by simpa using h7
 have hxy':(y==x)=false:=by simpa using Ne.symm hxy
 have pn:∀ (x:Str) (p:Pos),(Expr.Name x p).pos=p:=fun _ _=>rfl
 simp only [List.length_cons,List.length_nil,hk,bne_self_eq_false,Bool.or_false,List.any_cons,List.any_nil,List.head?_cons,Option.map_some,Option.getD_some,pn,List.filterMap_cons,List.filterMap_nil,hx,hy,hl,h8,h9]
 simp [List.eraseDups_cons,hxy']
 rintro (z | z)
 · exfalso
   clear h8 h9
   cases a <;> first | (cases z;done) | (cases h2;done)
 · exfalso
   clear h8 h9
   cases b <;> first | (cases z;done) | (cases h3;done)
end T3
namespace L2
open PySem PySem.Spec PyProof.Rows
section
variable {X:Cx} {pins:List (Addr × Obj)} {σ:St} {H:Hp} {s:Shared} {a:Addr} {kvs:List (Key × V)}
theorem Inv.fzd (I:Inv X pins σ H s) (h:Rd H a (.dK kvs)):∃ o,s.heap.get? a=some o∧∃ H',Inv X pins σ H' s∧H' a=some (.frz o (.dK kvs))∧(H' a=H a∨H a=some (.dK kvs))∧(∀ b,b ≠ a→H' b=H b):=by
 rcases h with h | ⟨o,h⟩
 · obtain ⟨z,hd,vs,rel,ob,es,ep,e,r⟩:=I.hok a _ h
   have nt:∀ b u,H b=some u→(∀ k,u ≠ .dK k)→b ≠ a:=fun b u hb hu z=>by subst z;rw[h]at hb;cases hb;exact hu _ rfl
   refine⟨ob,e,upd H a (.frz ob (.dK kvs)),?_,qi,.inr h,fun b hb=>qc hb⟩
   have ok:HOk X.prog X.w (upd H a (.frz ob (.dK kvs))) s.heap:=fun b u hb=>by
     by_cases hab:b=a
     · subst hab
       rw[qi]at hb
       cases hb
       exact⟨e,z,hd,vs,rel,ob,es,ep,e,r⟩
     · rw[qc hab]at hb
       exact(I.hok b u hb).stay (fun _ _ _ q=>q) (fun c hc=>by rw[qc (nt c _ hc (by intro k z;cases z))];exact hc) (fun c xs hc=>by rw[qc (nt c _ hc (by intro k z;cases z))];exact hc)
   exact I.un (h':=s.heap) (t':=s.toks) ⟨fun b o q _ _ _=>q,fun b o q _ _ _=>⟨o.slots,q⟩,fun b o _ n _=>by rw[qc (fun z=>by subst z;rw[h]at n;cases n)];exact n,fun b o q _=>⟨o,q⟩,
     fun b xs q=>by rw[qc (nt b _ q (by intro k z;cases z))];exact q,fun b o u q=>by rw[qc (nt b _ q (by intro k z;cases z))];exact q,fun b ps q=>⟨#[],by rw[qc (nt b _ q (by intro k z;cases z)),q];simp⟩⟩ ok
 · exact⟨o,(I.hok a _ h).1,H,I,h,.inl rfl,fun _ _=>rfl⟩
theorem Inv.dictAt {o:Obj} {es:Array DictEntry} {ep:Nat} (I:Inv X pins σ H s) (h:H a=some (.frz o (.dK kvs))) (hd:o.data=.dict es ep):∃ vs,KV kvs vs∧s.heap.DictAt (qo X.prog X.w) a vs ep:=by
 obtain ⟨e,_,_,vs,rel,ob,es',ep',e',x1,x2,x3⟩:=I.hok a _ h
 rw[e]at e';cases e'
 rw[hd]at x2
 cases x2
 exact⟨vs,rel,o,es,e,x1,hd,x3⟩
noncomputable def Itk (a:Addr) (o:Obj) (kvs:List (Key × V)):It :=
 ⟨fun i H=>H a=some (.frz o (.dK kvs))∧i < kvs.length,fun i H x H'=>H'=H∧∃ k v,kvs[i]? =some (k,v)∧x=kV k,fun i H=>H a=some (.frz o (.dK kvs))∧kvs.length≤i⟩
theorem qv7 {P:Program} {w:World} {k:Key} {u:Value} (h:(qo P w).is k u=true):RelV (kV k) u:=by
 rw[qt6]at h
 rcases qac h with ⟨i,t,rfl,rfl⟩ | ⟨x,t,rfl,rfl⟩
 · exact⟨t,rfl⟩
 · exact⟨t,rfl⟩
theorem KV.get {kvs:List (Key × V)} {vs:List (Key × Value)} (r:KV kvs vs) {i:Nat} {k:Key} {v:V} (h:kvs[i]? =some (k,v)):∃ u,vs[i]? =some (k,u)∧RelV v u:=by
 induction r generalizing i with
 | nil=>simp at h
 | @cons x y xs ys hr t ih =>
   cases i with
   | zero =>
     simp at h
     subst h
     obtain ⟨k',u⟩:=y
     obtain ⟨rfl,r⟩:=hr
     exact⟨u,rfl,r⟩
   | succ i =>
     obtain ⟨u,e,r⟩:=ih (by simpa using h)
     exact⟨u,by simpa using e,r⟩
theorem qxz {P:Program} {w:World} {K:PySem.W.Frag} {tg:Expr} {o:Obj} {es:Array DictEntry} {ep:Nat} (hd:o.data=.dict es ep) (it:Addr):Turn P w K tg (Itk a o kvs) [it] it (fun i h=>h.IsKeyIter it a i kvs.length ep) where
 mem:=by simp
 obj:=fun i h st b hb=>by
   have e:b=it:=by simpa using hb
   subst e
   obtain ⟨o,e,c,d⟩:=st
   exact⟨o,e,fun v z=>by rw[d]at z;cases z⟩
 keep:=fun i h h' st k=>st.at fun o e=>k it (by simp) o e
 item:=by
   intro X hP hw hK hc i pins s σ H E I hf st hg
   subst hP hw hK
   obtain ⟨hg,hi⟩:=hg
   obtain ⟨vs,rel,da⟩:=I.dictAt hg hd
   obtain ⟨⟨k,v⟩,hx⟩:∃ p,kvs[i]? =some p:=⟨_,List.getElem?_eq_getElem hi⟩
   obtain ⟨u,hu,ru⟩:=rel.get hx
   obtain ⟨f0,f1,f2,f3,f4,f5⟩:=hf it (by simp)
   rw[rel.length]at st
   refine wpAny_pyNext_dict_item st da hu fun key h' hkey st' sb=> ?_
   have I1:Inv X pins σ H { s with heap:=h' }:=I.turned (t':=s.toks) (fun b o hb e=>(sb.2 b hb).trans e) f0 f1 f3 f4 f5
   obtain ⟨o,e,c,d⟩:=id st'
   exact⟨key,rfl,qvi (s:={ s with heap:=h' }) e c d (by decide) ⟨kV k,H,I1,qv7 hkey,⟨rfl,k,v,hx,rfl⟩,by rw[rel.length];exact st',fun b hb=>(hf b hb).1⟩⟩
 done:=by
   intro X hP hw hK hc i pins s σ H E I hf st hg
   subst hP hw hK
   obtain ⟨hg,hi⟩:=hg
   obtain ⟨vs,rel,da⟩:=I.dictAt hg hd
   obtain ⟨f0,f1,f2,f3,f4,f5⟩:=hf it (by simp)
   rw[rel.length]at st hi
   exact wpAny_pyNext_dict_end (I.ok.hd hc) st da (List.getElem?_eq_none_iff.mpr hi) fun h' eb=>⟨rfl,I.turned (t':=s.toks) (fun b o hb e=>eb b o hb e) f0 f1 f3 f4 f5⟩
 self:=fun _ _ _ _ _ st h=>wpAny_pyIter_keyiter st h
noncomputable def qabc (tl:TE):TI:=fun σ H R=>tl σ H fun x H1=>∃ a kvs,x=.ref a∧Rd H1 a (.dK kvs)∧∀ o H2,H2 a=some (.frz o (.dK kvs))→(H2 a=H1 a∨H1 a=some (.dK kvs))→(∀ b,b ≠ a→H2 b=H1 b)→R (Itk a o kvs) H2
theorem q28 {tg l:Expr} {tl:TE} (hl:PE X l tl):PI X tg l (qabc tl):=by
 intro pins s σ H R I h
 refine thn (hl pins s σ H _ I h) fun v s1 ⟨x,H1,I1,r1,q1⟩=> ?_
 obtain ⟨a,kvs,e,hd,q⟩:=q1
 subst e
 cases r1
 obtain ⟨o,ho,H2,I2,e2,e4,e3⟩:=I1.fzd hd
 obtain ⟨_,_,hs,vs,rel,ob,es,ep,e',x1,x2,x3⟩:=I2.hok a _ e2
 rw[ho]at e';cases e'
 obtain ⟨vs,rel,da⟩:=I2.dictAt e2 x2
 refine wpAny_pyIter_dict hs da ?_
 refine⟨s1.heap.objs.size,[s1.heap.objs.size],_,_,H2,rfl,I2.kept (t':=s1.toks) fun b o e=>Heap.get?_push_of_some _ e,qxz (a:=a) (kvs:=kvs) x2 _,⟨_,Heap.get?_push_size _ rfl,rfl,by rw[rel.length];rfl⟩,fun b hb=> ?_,q o H2 e2 e4 e3⟩
 have e:b=s1.heap.objs.size:=by simpa using hb
 subst e
 exact I2.fpOk (Nat.le_refl _) (I2.hok.fresh (Nat.le_refl _))
end
theorem qpx {prog:Program} {w:World} {A:Around} {R:Result→Shared→Prop} {kx vx target iter:Expr} {ifs:List Expr} {scope:Scope} {pos:Pos} {it:Value} {D:Addr} {env:Env} {s:Shared} (I:Nat→Shared→Prop)
   (turn : ∀ n s,I n s→wpAny (model prog w) A (pyNext it) (fun r s₁=>match r with
     | none=>R (.ok .next) s₁
     | some v=>wpAny (model prog w) A (letOwnedTupleGo target it v) (fun _ s₁'=>wpAny (model prog w) A (assign target env v) (fun _ s₂ =>
         wpAny (model prog w) A (forIn ifs true fun c r=>if r=true then do let ok ← isTrue c env (eval c env);pure (ForInStep.yield ok)else pure (ForInStep.yield r)) (fun ok s₃ =>
           if ok=true then wpAny (model prog w) A (eval kx env) (fun x s₄=>wpAny (model prog w) A (eval vx env) (fun y s₅ =>
             wpAny (model prog w) A (dictSet D x y) (fun _ s₆=>∃ m,m < n∧I m s₆) (fun _ _=>False) s₅) (fun _ _=>False) s₄) (fun _ _=>False) s₃
           else ∃ m,m < n∧I m s₃) (fun _ _=>False) s₂) (fun _ _=>False) s₁') (fun _ _=>False) s₁) (fun _ _=>False) s)
   (n:Nat) (h:I n s) :
   codeAny (model prog w) A (.compLoop (.DictComp kx vx [⟨target,iter,ifs,0⟩] scope pos) 0 it (.ref D) env) R s:=by
 refine codeAny_loop rfl I (fun n s hI=> ?_) n h
 show wpAny _ A ((compTurn (.DictComp kx vx [⟨target,iter,ifs,0⟩] scope pos) 0 it (.ref D) env).onRaise (fun x=>do noteFrame x env;theTreesLotGoes x)) _ _ s
 refine wpAny_noted ?_
 rw[compTurn_dict]
 refine wpAny_bind (wpAny_standAt (wpAny_bind (wpAny_mono (turn n s hI) (fun r s₁ h₁=> ?_) fun _ _ h'=>h'.elim)))
 cases r with
 | none=>exact wpAny_pure h₁
 | some v =>
   refine wpAny_bind (wpAny_mono h₁ (fun _ s₁' h₁'=> ?_) fun _ _ h'=>h'.elim)
   refine wpAny_bind (wpAny_mono h₁' (fun _ s₂ h₂=>wpAny_bind (wpAny_mono h₂ (fun ok s₃ h₃=> ?_) fun _ _ h'=>h'.elim)) fun _ _ h'=>h'.elim)
   cases ok with
   | false=>exact wpAny_pure ⟨rfl,h₃⟩
   | true =>
     exact wpAny_bind (wpAny_bind (wpAny_mono h₃ (fun x s₄ h₄=>wpAny_bind (wpAny_holding (wpAny_mono h₄ (fun y s₅ h₅=>wpAny_bind (wpAny_standAt (wpAny_holding (wpAny_mono h₅ (fun _ s₆ h₆=>wpAny_pure ⟨rfl,h₆⟩) fun _ _ h'=>h'.elim)))) fun _ _ h'=>h'.elim))) fun _ _ h'=>h'.elim))
noncomputable def DcW (J:It) (n:Nat) (g:TG) (tt:TT) (tk tv:TE) (σ:St) (H1:Hp) (Fin:List (Key × V)→Hp→Prop):Prop :=
 ∃ W : Nat→Nat→List (Key × V)→Hp→Prop,(∃ m,W 0 m [] H1)∧∀ i m ys H,W i m ys H→ys.length < sizeLine ∧
   ((J.stop i H∧Fin ys H) ∨
    (J.go i H∧∃ N:List (Key × V)→Hp→Prop,(∀ ys' H',N ys' H'→∃ m',m' < m∧W (i+1) m' ys' H')∧∀ x H',J.yld i H x H'→g x (List.replicate n none++σ) H' fun σ2 H2=>σ2.drop n=σ∧tt σ2 H2 fun c H3 =>
       if c=true then tk σ2 H3 fun x H4=>tv σ2 H4 fun y H5=>∃ k,x=kV k∧N (putK ys k y) H5 else N ys H3))
noncomputable def tDC (n:Nat) (wi:TI) (g:TG) (tt:TT) (tk tv:TE):TE:=fun σ H Q=>wi σ H fun J H1=>DcW J n g tt tk tv σ H1 fun ys H'=>∀ D,H' D=none→Q (.ref D) (upd H' D (.dK ys))
section
variable {X:Cx} {pins:List (Addr × Obj)} {σ:St} {H:Hp} {s:Shared} {ts M:List Str} {scope:Scope} {fp:List Addr}
theorem qup {M:Model} {A:Around} {E:Value→Shared→Prop} {Q:Value→Shared→Prop} (h:Q (.ref s.heap.objs.size) { s with heap:=s.heap.push { cls:=.type "dict",data:=.dict #[] } }):wpAny M A newDict Q E s:=by
 unfold newDict
 exact wpAny_newObj_type h (by first | size_fits | decide | exact Nat.zero_le _)
theorem qin {P:Program} {w:World} {h h':Heap} {D:Addr} {its:List (Key × Value)} {o:Obj} (d:h.DictOf (qo P w) D its) (e:h.get? D=some o) (e':h'.get? D=some o):h'.DictOf (qo P w) D its:=by
 obtain ⟨o',es,ep,e1,r⟩:=d
 rw[e]at e1;cases e1
 exact⟨o,es,ep,e',r⟩
theorem q79 {D:Addr} (h:sysModules < D):(D==sysModules)=false:=by
 simp only [beq_eq_false_iff_ne];exact Nat.ne_of_gt h
theorem Inv.compedD {H':Hp} {s':Shared} {σ':St} {C D:Addr} {pins':List (Addr × Obj)} {o:HO} (I:Inv X pins σ H s) (hf:∀ b ∈ fp,qed X pins H b) (J:Inv (cxC X ts M scope C fp s H) pins' σ' H' s') (hD:s.heap.objs.size≤D) (hD0:H' D=none) (hn:qat X.prog X.w (upd H' D o) s'.heap D o):Inv X pins σ (upd H' D o) s':=by
 have u:=J.base
 have neD:∀ b o,s.heap.get? b=some o→b ≠ D:=fun b o e=>Nat.ne_of_lt (Nat.lt_of_lt_of_le (Heap.lt_size e) hD)
 have neH:∀ b o,H' b=some o→b ≠ D:=fun b o e z=>by rw[z,hD0]at e;cases e
 refine I.call' (ch:=fp) J.os ⟨u.keep,u.slot,fun b o e n hb=> ?_,u.there,fun b xs e=> ?_,fun b o w e=> ?_,fun b ps e=> ?_⟩ (fun b u e=> ?_) J.bare (fun b hb=>⟨(hf b hb).2.2.2.1,(hf b hb).2.1,(hf b hb).2.2.2.2.1,(hf b hb).2.2.2.2.2⟩)
 · rw[qc (neD b o e)];exact u.free b o e n hb
 · have q:=u.tups b xs e
   rw[qc (neH b _ q)];exact q
 · have q:=u.frzs b o w e
   rw[qc (neH b _ q)];exact q
 · obtain ⟨more,q⟩:=u.tbls b ps e
   exact⟨more,by rw[qc (neH b _ q)];exact q⟩
 · by_cases hb:b=D
   · subst hb
     rw[qi]at e;cases e
     exact hn
   · rw[qc hb]at e
     refine(J.hok b u e).stay (fun _ _ _ q=>q) (fun c q=> ?_) fun c xs q=> ?_
     · rw[qc (neH c _ q)];exact q
     · rw[qc (neH c _ q)];exact q
theorem qsb {tg iter kx vx:Expr} {ifs:List Expr} {pos:Pos} {g:TG} {tt:TT} {tk tv:TE} (c:qav X ts M scope) (hc:X.calm=true) (hg:∀ C fp s₀ H₀,PG (cxC X ts M scope C fp s₀ H₀) tg g) (hf:∀ C fp s₀ H₀,PF (cxC X ts M scope C fp s₀ H₀) ifs tt)
   (hk:∀ C fp s₀ H₀,PE (cxC X ts M scope C fp s₀ H₀) kx tk) (he:∀ C fp s₀ H₀,PE (cxC X ts M scope C fp s₀ H₀) vx tv) {it:Addr} {tn:Nat→Heap→Prop} {J:It} {Fin:List (Key × V)→Hp→Prop} (I:Inv X pins σ H s) (T:Turn X.prog X.w X.K tg J fp it tn) (t0:tn 0 s.heap) (f0:∀ b ∈ fp,qed X pins H b) (hw:DcW J ts.length g tt tk tv σ H Fin)
   {RR:Value→Addr→Result→Shared→Prop}
   (hRR:∀ (D C:Addr) (H':Hp) (s':Shared) (ys:List (Key × V)) (m:Str→Option Value),Inv X pins σ (upd H' D (.dK ys)) s'→s'.heap.Ns C m→C ≠ X.env.locals→(∀ x a,X.env.cells.lookup x=some a→a ≠ C)→X.s₀.heap.objs.size≤C→upd H' D (.dK ys) C=none→(∀ p ∈ X.pn++pins,p.1 ≠ C)→H' D=none→Fin ys H'→RR (.ref D) C (.ok .next) s') :
   wpAny (model X.prog X.w) X.A newDict (fun acc s₃=>wpAny (model X.prog X.w) X.A (newFunctionEnv scope X.env.globals (clo scope X.env) [] X.env.qual none .none (some X.env)) (fun cenv s₄ =>
     codeAny (model X.prog X.w) X.A (.compStart (.DictComp kx vx [⟨tg,iter,ifs,0⟩] scope pos) 0 (.ref it) acc { cenv with scope:=relabel scope X.env }) (RR acc cenv.locals) s₄) X.xe s₃) X.xe s:=by
 obtain ⟨W,⟨m0,w0⟩,turn⟩:=hw
 have fpo:∀ b ∈ fp,b < s.heap.objs.size:=fun b hb=>by obtain ⟨o,e,_⟩:=T.obj _ _ t0 b hb;exact Heap.lt_size e
 refine qup (qgh ?_)
 dsimp only
 generalize hH2:s.heap.push { cls:=.type "dict",data:=.dict #[] }=h2
 have hCs:h2.objs.size=s.heap.objs.size+1:=by rw[← hH2,Heap.size_push]
 obtain ⟨C,hCe⟩:∃ C:Nat,h2.objs.size=C:=⟨_,rfl⟩
 obtain ⟨D,hDe⟩:∃ D:Nat,s.heap.objs.size=D:=⟨_,rfl⟩
 have hns₁:=(Heap.Ns.new h2 (.type "dict")).keeps (pushCells_keeps scope.names (h2.push { cls:=.type "dict",data:=.dict #[] }))
 have ok:=cellsFrom_ok scope.names (h2.push { cls:=.type "dict",data:=.dict #[] }) (h2.objs.size+1) [] ⟨fun _ _ hm=>(nomatch hm),List.Pairwise.nil⟩ (by rw[Heap.size_push];exact Nat.le_refl _)
 rw[Heap.size_push]at ok
 rw[hCe]at hns₁ ok ⊢
 rw[hDe]
 rw[hCe,hDe]at hCs
 have hDC:D ≠ C:=by omega
 generalize hh1:pushCells (h2.push { cls:=.type "dict",data:=.dict #[] }) scope.names=h₁ at hns₁ ok ⊢
 have kp:∀ b o,h2.get? b=some o→h₁.get? b=some o:=fun b o e=>by rw[← hh1];exact pushCells_keeps _ _ b o (Heap.get?_push_of_some _ e)
 have old:∀ b u,s.heap.get? b=some u→h₁.get? b=some u:=fun b u e=>kp b u (hH2 ▸ Heap.get?_push_of_some _ e)
 have hacc:h₁.DictOf (qo X.prog X.w) D []:=by
   obtain ⟨o,es,ep,ho,r⟩:=Heap.DictOf.new (knd:=qo X.prog X.w) s.heap
   refine⟨o,es,ep,kp _ _ ?_,r⟩
   rw[← hH2,← hDe]
   exact ho
 have hns:h₁.Ns C fun _=>none:=hns₁
 have hO:q2d scope C h₁:=⟨fun x a h=>⟨(ok.empty x a h).1,(ok.empty x a h).2⟩,ok.apart⟩
 have J0:Inv (cxC X ts M scope C fp s H) [] (List.replicate ts.length none++σ) H { s with heap:=h₁,toks:=s.toks }:=I.comp c f0 fpo (by omega) hns hO old
 have hDn:H D=none:=I.hok.fresh (by omega)
 have hDs:sysModules < D:=by have q:=I.big;rw[hDe]at q;exact q
 have loop : codeAny (model X.prog X.w) X.A (.compLoop (.DictComp kx vx [⟨tg,iter,ifs,0⟩] scope pos) 0 (.ref it) (.ref D) (compEnvC scope (cellsFrom (C+1) scope.names (clo scope X.env)) C X.env)) (RR (.ref D) C) { s with heap:=h₁,toks:=s.toks }:=by
   refine qpx (fun n s'=>∃ (i:Nat) (σ':St) (H':Hp) (ys:List (Key × V)) (its:List (Key × Value)),Inv (cxC X ts M scope C fp s H) [] σ' H' s'∧σ'.drop ts.length=σ∧tn i s'.heap∧(∀ b ∈ fp,H' b=none)∧H' D=none∧s'.heap.DictOf (qo X.prog X.w) D its∧KV ys its∧W i n ys H') ?_ m0
     ⟨0,_,H,[],[],J0,by rw[List.drop_append,List.drop_of_length_le (by simp)];simp,T.keep _ _ _ t0 fun b _ o e=>old b o e,fun b hb=>(f0 b hb).1,hDn,hacc,.nil,w0⟩
   rintro n s1 ⟨i,σ1,H1,ys,its,I1,d1,t1,fr1,hD1,dd1,rv1,w1⟩
   obtain ⟨oD,esD,epD,hl1,xD,hdD,rD⟩:=id dd1
   obtain ⟨hz,hturn⟩:=turn i n ys H1 w1
   have nDfp:D ∉ fp:=fun z=>by have: @LT.lt Nat _ D s.heap.objs.size:=fpo D z;omega
   have neC:∀ x a,(cellsFrom (C+1) scope.names (clo scope X.env)).lookup x=some a→a ≠ D:=fun x a h z=>by
     have z: @Eq Nat a D:=z
     rcases qam h with h | ⟨_,h⟩
     · have:=(hO.empty _ _ h).2
       omega
     · obtain ⟨v,q⟩:=I.cell x a (qeg (c.has I.ok) h)
       have: @LT.lt Nat _ a s.heap.objs.size:=q.lt
       omega
   have pinD:∀ {H':Hp} {s':Shared} {obj:Obj},s'.heap.get? D=some obj→H' D=none→(∀ v,obj.data ≠ .cell v)→∀ p ∈ [(D,obj)],s'.heap.get? p.1=some p.2∧H' p.1=none∧p.1 ≠ (cxC X ts M scope C fp s H).env.locals∧p.1 ∉ (cxC X ts M scope C fp s H).fs∧∀ v,p.2.data ≠ .cell v:=by
     intro H' s' obj e1 e2 e3 p hp
     have hp:p=(D,obj):=by simpa using hp
     subst hp
     refine⟨e1,e2,hDC,fun z=> ?_,e3⟩
     have z:D ∈ frs X.stack:=z
     rcases List.mem_cons.mp (I.stkSub D z)with e | e
     · have: @LT.lt Nat _ X.env.locals s.heap.objs.size:=I.lt
       have e: @Eq Nat D X.env.locals:=e
       omega
     · exact I.nofs (a:=D) (by omega) e
   have I1':=I1.pins_of (pinD hl1 hD1 fun v z=>by rw[hdD]at z;cases z)
   have fpk:∀ {H':Hp},(∀ b ∈ fp,H' b=none)→∀ b ∈ fp,qed (cxC X ts M scope C fp s H) [(D,oD)] H' b:=fun {H'} fr b hb=>by
     refine⟨fr b hb,fun z=> ?_,I1.ok.exfs b hb,.inl hb,fun x a h=> ?_,fun p hp=> ?_⟩
     · have: @LT.lt Nat _ b s.heap.objs.size:=fpo b hb
       have z: @Eq Nat b C:=z
       omega
     · rcases qam h with h | ⟨_,h⟩
       · have h1:=(hO.empty _ _ h).2
         have h2: @LT.lt Nat _ b s.heap.objs.size:=fpo b hb
         exact Nat.ne_of_gt (by omega)
       · exact(f0 b hb).2.2.2.2.1 x a (qeg (c.has I.ok) h)
     · have hp:p=(D,oD):=by simpa [cxC]using hp
       subst hp
       rintro rfl
       exact nDfp hb
   rcases hturn with ⟨stop,fin⟩ | ⟨go,N,hN,step⟩
   · refine wpAny_mono (T.done (cxC X ts M scope C fp s H) rfl rfl rfl hc i _ s1 σ1 H1 (fun _ _=>False) I1' (fpk fr1) t1 stop) (fun r s2 ⟨hr,I2⟩=> ?_) fun _ _ z=>z
     subst hr
     have pD:=I2.pin (D,oD) (by simp)
     obtain ⟨m2,hn2,_⟩:=I2.loc
     refine hRR D C H1 s2 ys m2 (I.compedD f0 I2 (by omega) hD1 ⟨by omega,q79 hDs,its,rv1,qin dd1 hl1 pD.1⟩) hn2 ?_ (fun x a h=> ?_) ?_ ?_ (fun p hp=> ?_) hD1 fin
     · have: @LT.lt Nat _ X.env.locals s.heap.objs.size:=I.lt
       exact Nat.ne_of_gt (by omega)
     · obtain ⟨v,q⟩:=I.cell x a h
       have: @LT.lt Nat _ a s.heap.objs.size:=q.lt
       exact Nat.ne_of_lt (by omega)
     · have:=I.sz;omega
     · rw[qc (Ne.symm hDC)];exact I2.free
     · have: @LT.lt Nat _ p.1 s.heap.objs.size:=Heap.lt_size (I.pin p hp).1
       exact Nat.ne_of_lt (by omega)
   · refine wpAny_mono (T.item (cxC X ts M scope C fp s H) rfl rfl rfl hc i _ s1 σ1 H1 (fun _ _=>False) I1' (fpk fr1) t1 go) (fun r s2 ⟨u,hr,h2⟩=> ?_) fun _ _ z=>z
     subst hr
     refine wpAny_mono h2 (fun _ s3 ⟨x,H3,I3,r3,y3,t3,fr3⟩=> ?_) fun _ _ z=>z
     have I3':Inv (cxC X ts M scope C fp s H) _ (List.replicate ts.length none++σ) H3 s3:=(I3.pinned (fpk fr3) (T.obj _ _ t3)).weak (by
         have:=I3.len
         have e:σ1.length=(ts++M).length:=I3.len
         rw[List.length_append,List.length_replicate,I.len,e,List.length_append,c.len]) (fun j v e=>by
         have hj:ts.length≤j:=by
           rcases Nat.lt_or_ge j ts.length with z | z
           · rw[List.getElem?_append_left (by simpa using z),List.getElem?_replicate]at e
             split at e <;> cases e
           · exact z
         rw[List.getElem?_append_right (by simpa using hj)]at e
         rw[← d1,List.getElem?_drop]at e
         simp only [List.length_replicate]at e
         rwa [show ts.length+(j - ts.length)=j by omega]at e)
     refine wpAny_mono (hg C fp s H _ s3 _ H3 x u _ I3' r3 (step x H3 y3)) (fun _ s4 ⟨σ4,H4,I4,d4,q4⟩=> ?_) fun _ _ z=>z
     refine wpAny_mono (hf C fp s H _ s4 σ4 H4 _ I4 q4) (fun ok s5 ⟨H5,I5,q5⟩=> ?_) fun _ _ z=>z
     have keepT:∀ {σ7:St} {H7:Hp} {s7:Shared},Inv (cxC X ts M scope C fp s H) ([(D,oD)]++qee fp s3.heap) σ7 H7 s7→tn (i+1) s7.heap∧(∀ b ∈ fp,H7 b=none):=fun {σ7 H7 s7} I7 =>
       ⟨T.keep _ _ _ t3 fun b hb o e=>(I7.pin (b,o) (List.mem_append_right _ (List.mem_append_right _ (qar hb e)))).1,fun b hb=>by
         obtain ⟨o,e,_⟩:=T.obj _ _ t3 b hb
         exact(I7.pin (b,o) (List.mem_append_right _ (List.mem_append_right _ (qar hb e)))).2.1⟩
     cases ok with
     | false =>
       rw[if_neg Bool.false_ne_true]at q5 ⊢
       obtain ⟨m',hm,w'⟩:=hN _ _ q5
       have pD:=I5.pin (D,oD) (by simp)
       exact⟨m',hm,i+1,σ4,H5,ys,its,I5.pins_of (fun p hp=>by simp at hp),d4,(keepT I5).1,(keepT I5).2,pD.2.1,qin dd1 hl1 pD.1,rv1,w'⟩
     | true =>
       rw[if_pos rfl]at q5 ⊢
       refine wpAny_mono (hk C fp s H _ s5 σ4 H5 _ I5 q5) (fun v s6 ⟨y,H6,I6,r6,q6⟩=> ?_) fun _ _ z=>z
       refine wpAny_mono (he C fp s H _ s6 σ4 H6 _ I6 q6) (fun v2 s7 ⟨y2,H7,I7,r7,kk,ek,q7⟩=> ?_) fun _ _ z=>z
       subst ek
       obtain ⟨m',hm,w'⟩:=hN _ _ q7
       have pD:=I7.pin (D,oD) (by simp)
       have hlen:=rv1.length
       refine wpAny_dictSet_pairs (hsz:=by omega) (qog r6) (qin dd1 hl1 pD.1) fun h' dd' sb=> ?_
       have up:∀ b o,b ≠ D→s7.heap.get? b=some o→h'.get? b=some o:=fun b o hb e=>(sb.2 b hb).trans e
       have I8:Inv (cxC X ts M scope C fp s H) [] σ4 H7 { s7 with heap:=h',toks:=s7.toks+1 } :=
         (I7.pins_of (pins':=[]) (fun p hp=>by simp at hp)).turned up pD.2.1 hDC (.inr (by show s.heap.objs.size≤D;omega)) (fun x a h=>neC x a h) (fun p hp=>by simp [cxC]at hp)
       refine⟨m',hm,i+1,σ4,H7,putK ys kk y2,_,I8,d4,?_,(keepT I7).2,pD.2.1,dd',rv1.put kk r7,w'⟩
       exact T.keep _ _ _ (keepT I7).1 fun b hb o e=>up b o (fun z=>nDfp (z ▸ hb)) e
 exact codeAny_compStart_dict loop (T.self _ 0 _ _ _ (T.keep _ _ _ t0 fun b _ o e=>old b o e) loop)
theorem qabd {tg iter kx vx:Expr} {ifs:List Expr} {pos:Pos} {wi:TI} {g:TG} {tt:TT} {tk tv:TE} (c:qav X ts M scope) (hc:X.calm=true) (hi:PI X tg iter wi) (hg:∀ C fp s₀ H₀,PG (cxC X ts M scope C fp s₀ H₀) tg g) (hf:∀ C fp s₀ H₀,PF (cxC X ts M scope C fp s₀ H₀) ifs tt)
   (hk:∀ C fp s₀ H₀,PE (cxC X ts M scope C fp s₀ H₀) kx tk) (he:∀ C fp s₀ H₀,PE (cxC X ts M scope C fp s₀ H₀) vx tv) (hs:∀ x,foldedSetIterable iter X.env x=pure x:=by intro _;rfl):PE X (.DictComp kx vx [⟨tg,iter,ifs,0⟩] scope pos) (tDC ts.length wi g tt tk tv):=by
 intro pins s σ H Q I h
 rw[arm_eval_DictComp]
 refine wpAny_comprehension_free (use:=none) rfl hs (qk2 (c.has I.ok)) c.kind c.loc (thn (hi pins s σ H _ I h) fun v s1 h1=>thn h1 fun itv s2 h2=> ?_)
 obtain ⟨it,fp,tn,J,H2,rfl,I2,T,t0,f0,hw⟩:=h2
 refine qsb (RR:=fun acc C=>compPost (model X.prog X.w) X.A X.xe none (EP X pins σ Q) acc C) c hc hg hf hk he I2 T t0 f0 hw ?_
 intro D C H' s' ys m I' hn n1 n2 n3 n4 n5 hD fin
 exact⟨m,hn,fun h' hs'=>⟨.ref D,_,I'.turned (t':=s'.toks) (fun b o hb e=>(hs'.2 b hb).trans e) n4 n1 (.inr n3) n2 n5,rfl,fin D hD⟩⟩
theorem qzx {i:Nat} {x:Str} {tg iter kx vx:Expr} {ifs:List Expr} {pos pos' spos:Pos} {wi:TI} {g:TG} {tt:TT} {tk tv:TE} (hN:X.N.Nodup) (hix:X.N[i]? =some x) (hx:Loc X.env.scope x) (c:qav X ts M scope) (hc:X.calm=true) (hi:PI X tg iter wi) (hg:∀ C fp s₀ H₀,PG (cxC X ts M scope C fp s₀ H₀) tg g) (hf:∀ C fp s₀ H₀,PF (cxC X ts M scope C fp s₀ H₀) ifs tt)
   (hk:∀ C fp s₀ H₀,PE (cxC X ts M scope C fp s₀ H₀) kx tk) (he:∀ C fp s₀ H₀,PE (cxC X ts M scope C fp s₀ H₀) vx tv) (hs:∀ x,foldedSetIterable iter X.env x=pure x:=by intro _;rfl) (hsw:swapsWith (.DictComp kx vx [⟨tg,iter,ifs,0⟩] scope pos) (some (.Name x pos')) spos.line X.env=pure true:=by rfl)
   (hfn:X.fn x=true∨X.env.scope.names.lookup x=some .local:=by first | exact .inl rfl | exact .inr rfl | assumption) :
   PS X (.Assign [.Name x pos'] (.DictComp kx vx [⟨tg,iter,ifs,0⟩] scope pos) spos) (q1y (tDC ts.length wi g tt tk tv) (qvh i)):=by
 intro pins s σ H Dn I h
 rw[exec_Assign_Name_used _ _ _ _ hsw]
 refine wpAny_bind (wpAny_standAt (wpAny_bind ?_))
 show wpAny _ X.A (do let _ ← comprehension (.DictComp kx vx [⟨tg,iter,ifs,0⟩] scope pos) scope X.env _ newDict false (eval iter X.env) (some (assign (.Name x pos') X.env))) _ _ s
 refine wpAny_bind (wpAny_mono (wpAny_comprehension_free (use:=some (assign (.Name x pos') X.env)) (Q:=fun _ s'=>SP X pins Dn .next s') rfl hs (qk2 (c.has I.ok)) c.kind c.loc
   (thn (hi pins s σ H _ I h) fun v s1 h1=>thn h1 fun itv s2 h2=> ?_)) (fun _ s' hq=>wpAny_pure (wpAny_pure hq)) fun _ _ e=>e)
 obtain ⟨it,fp,tn,J,H2,rfl,I2,T,t0,f0,hw⟩:=h2
 refine qsb (RR:=fun acc C=>compPost (model X.prog X.w) X.A X.xe (some (assign (.Name x pos') X.env)) (fun _ s'=>SP X pins Dn .next s') acc C) c hc hg hf hk he I2 T t0 f0 hw ?_
 intro D C H' s' ys m I' hn n1 n2 n3 n4 n5 hD fin
 show wpAny _ X.A (assign (.Name x pos') X.env (.ref D)) _ _ _
 refine wpAny_assign_Name (qh7 I' hN hix hx (v:=.ref D) rfl (fun s'' I'' hsb=> ?_) hfn)
 obtain ⟨a,hsb,ha⟩:=hsb
 have hCa:C ≠ a:=by
   rcases ha with rfl | ha
   · exact n1
   · exact(n2 x a ha).symm
 refine⟨m,hn.sameBut hsb hCa,fun h' hs'=>⟨_,_,I''.turned (t':=s''.toks) (fun b o hb e=>(hs'.2 b hb).trans e) n4 n1 (.inr n3) n2 n5,fin D hD⟩⟩
end
section
variable {X:Cx}
theorem qv8:∀ {xs:List V} {us:List Value},xs.length=us.length→(∀ (i:Nat) x u,xs[i]? =some x→us[i]? =some u→RelV x u)→Vals xs us
 | [],[],_,_=>.nil
 | [],_::_,h,_=>by simp at h
 | _::_,[],h,_=>by simp at h
 | x::xs,u::us,h,k=>.cons (k 0 x u rfl rfl) (qv8 (by simpa using h) fun i y w e f=>k (i+1) y w (by simpa using e) (by simpa using f))
theorem qow {P:Program} {w:World} {kvs:List (Key × V)} {vs:List (Key × Value)} {acc:List Value} (rel:KV kvs vs) (hl:acc.length=vs.length) (hv:∀ (j:Nat) v,acc[j]? =some v→∃ k x,vs[j]? =some (k,x)∧(qo P w).is k v=true):Vals (kvs.map fun kv=>kV kv.1) acc:=by
 refine qv8 (by rw[List.length_map,rel.length,hl]) fun i x u e1 e2=> ?_
 obtain ⟨k,y,e3,hk⟩:=hv i u e2
 rw[List.getElem?_map]at e1
 cases e4:kvs[i]? with
 | none=>rw[e4]at e1;cases e1
 | some p =>
   obtain ⟨k',v'⟩:=p
   rw[e4]at e1
   obtain ⟨u',e5,_⟩:=rel.get e4
   rw[e3]at e5;cases e5
   have:kV k=x:=by simpa using e1
   rw[← this]
   exact qv7 hk
theorem quq (hc:X.calm=true):qaj X (.type "list") (fun xs H Q=>∃ a kvs,xs=[.ref a]∧Rd H a (.dK kvs)∧∀ l,H l=none→Q (.ref l) (upd H l (.lst (kvs.map fun kv=>kV kv.1)))):=by
 intro pins s σ H xs us Q I r h
 obtain ⟨a,kvs,rfl,hd,q⟩:=h
 obtain ⟨u,rfl,ru⟩:=vals1 r
 cases ru
 obtain ⟨z,hs,vs,rel,dd⟩:=qhf I.hok hd
 obtain ⟨ep,da⟩:=dd.dictAt
 refine PySem.W.kdl_call (PySem.W.kdl_dict (knd:=qo X.prog X.w) (kvs:=vs) (ep:=ep) hs) (I.ok.hd hc) da (by rw[← rel.length];exact z) fun h' tk acc c kp e it=> ?_
 have hv:Vals (kvs.map fun kv=>kV kv.1) acc.toList:=qow (P:=X.prog) (w:=X.w) rel (by rw[Array.length_toList];exact it.1) fun j v e=>it.2 j v (by rw[← Array.getElem?_toList];exact e)
 exact⟨.ref s.heap.objs.size,_,I.laid (o:=.lst (kvs.map fun kv=>kV kv.1)) (t':=tk) kp (Nat.le_refl _) ⟨by rw[List.length_map];exact z,acc.toList,c,hv,by simpa using e⟩,rfl,q _ (I.hok.fresh (Nat.le_refl _))⟩
theorem qkr:∀ {ns:List Int} {its:List Value},Vals (ns.map V.int) its→IntsAre its ns
 | [],_,.nil=>.nil
 | n::ns,_,.cons r t=>by
   obtain ⟨k,rfl⟩:=r
   exact .cons n k (qkr t)
theorem qpy:∀ {ns:List Int} {its:List Value},IntsAre its ns→Vals (ns.map V.int) its
 | _,_,.nil=>.nil
 | _,_,.cons n k t=>.cons ⟨k,rfl⟩ (qpy t)
theorem qpz:qaj X (.builtin "sorted") (fun xs H Q=>∃ a,∃ ns:List Int,xs=[.ref a]∧SqL X.K H a (ns.map V.int)∧ns.length < 64∧∀ (l:Addr) (ns':List Int),H l=none→ns'.Perm ns→ns'.Pairwise (·≤·)→Q (.ref l) (upd H l (.lst (ns'.map V.int)))):=by
 intro pins s σ H xs us Q I r h
 obtain ⟨a,ns,rfl,hl,h64,q⟩:=h
 obtain ⟨u,rfl,ru⟩:=vals1 r
 cases ru
 obtain ⟨its,rv,pl,_⟩:=I.list hl
 have hlen:=rv.length
 rw[List.length_map]at hlen
 refine sorted_ints pl.isList (qkr rv) (by omega) fun out ns' a1 a2 a3=> ?_
 obtain ⟨e,he⟩:=sortedAll_at s.heap its out
 refine⟨.ref (s.heap.objs.size+1),_,I.laid (o:=.lst (ns'.map V.int)) (t':=s.toks) (fun _ _=>sortedAll_old) (Nat.le_succ _) ⟨?_,out.toList,e,qpy a1,by simpa [seqObj]using he⟩,rfl,q _ ns' (I.hok.fresh (Nat.le_succ _)) a2 a3⟩
 rw[List.length_map,a2.length_eq]
 exact Nat.le_of_lt (qbp (by omega))
theorem qp0 (hc:X.calm=true):qaj X (.builtin "sorted") (fun xs H Q=>∃ a kvs,∃ ns:List Int,xs=[.ref a]∧Rd H a (.dK kvs)∧kvs.map (fun kv=>kV kv.1)=ns.map V.int∧ns.length < 64∧∀ (l:Addr) (ns':List Int),H l=none→ns'.Perm ns→ns'.Pairwise (·≤·)→Q (.ref l) (upd H l (.lst (ns'.map V.int)))):=by
 intro pins s σ H xs us Q I r h
 obtain ⟨a,kvs,ns,rfl,hd,hk,h64,q⟩:=h
 obtain ⟨u,rfl,ru⟩:=vals1 r
 cases ru
 obtain ⟨z,hs,vs,rel,dd⟩:=qhf I.hok hd
 obtain ⟨ep,da⟩:=dd.dictAt
 have hnl:ns.length=kvs.length:=by have:=congrArg List.length hk;simpa using this.symm
 refine Calls.call_function_entry kind_sorted plain_sorted entry_sorted (args_sorted1 _) ?_
 unfold Builtin.«sorted»
 refine wpAny_bind (m:=checkCount "sorted" 1 1 _) (wpAny_pure ?_)
 refine wpAny_bind (PySem.W.kdu_collect (A:=X.A.in1) (PySem.W.kdl_dict (knd:=qo X.prog X.w) (kvs:=vs) (ep:=ep) hs) (I.ok.hd hc) da (by rw[← rel.length];exact z) fun h' tk acc kp it=> ?_)
 have hv:Vals (kvs.map fun kv=>kV kv.1) acc.toList:=qow (P:=X.prog) (w:=X.w) rel (by rw[Array.length_toList];exact it.1) fun j v e=>it.2 j v (by rw[← Array.getElem?_toList];exact e)
 rw[hk]at hv
 have hal:acc.toList.length=ns.length:=by rw[← hv.length,List.length_map]
 have hal2:acc.size=ns.length:=by rw[← Array.length_toList];exact hal
 refine wpAny_bind (wpAny_newList ?_ (by rw[hal];exact Nat.le_of_lt (qbp (by omega))))
 have hoL:(h'.push (seqObj "list" acc.toList.toArray 0)).get? h'.objs.size=some (seqObj "list" acc.toList.toArray 0):=Heap.get?_push_size _ rfl
 refine wpAny_bind (wpAny_holding (wpAny_call_entry slot_list_sort ⟨_,hoL,rfl⟩ entry_list_sort (list_sort_tree hoL (qkr hv) (by omega) fun out ns' a1 a2 a3=>⟨_,rfl,?_⟩) (args_list_sort _)))
 refine wpAny_pure ⟨_,rfl,?_⟩
 obtain ⟨e,he⟩:=sortedHeap_at (out:=out) hoL
 have I':Inv X pins σ H { s with heap:=h',toks:=tk }:=I.kept (t':=tk) kp
 have old:∀ b o,h'.get? b=some o→(sortedHeap (h'.push (seqObj "list" acc.toList.toArray 0)) h'.objs.size acc.toList out).get? b=some o:=fun b o e=>by
   have hlt:b < h'.objs.size:=Heap.lt_size e
   rw[sortedHeap_old (Nat.ne_of_lt hlt) (by rw[size_push'];exact Nat.lt_succ_of_lt hlt)]
   exact Heap.get?_push_of_some _ e
 refine⟨.ref h'.objs.size,_,I'.laid (o:=.lst (ns'.map V.int)) old (Nat.le_refl _) ⟨?_,out.toList,e,qpy a1,by simpa [seqObj]using he⟩,rfl,q _ ns' (I'.hok.fresh (Nat.le_refl _)) a2 a3⟩
 rw[List.length_map,a2.length_eq]
 exact Nat.le_of_lt (qbp (by omega))
end
end L2
namespace T3
open PySem PySem.Spec PyProof.Rows L2
noncomputable def qga:Key→D
 | .inl i=>.int i
 | .inr x=>.str x
theorem qsc {w:Wd} {H:Hp}:∀ k:Key,Rep w H (qga k) (kV k)
 | .inl _=>rfl
 | .inr _=>rfl
theorem qio {w:Wd} {H:Hp} {vs:List V}:∀ {ks:List Key},qb w H (ks.map qga) (ks.map kV)
 | []=>rfl
 | k::ks=>⟨kV k,_,rfl,qsc k,qio (vs:=vs)⟩
theorem qlq:∀ {ks:List Key} {vs:List V},ks.length=vs.length→(ks.zip vs).map (fun kv=>kV kv.1)=ks.map kV
 | [],[],_=>rfl
 | [],_::_,h=>by simp at h
 | _::_,[],h=>by simp at h
 | k::ks,v::vs,h=>by rw[List.zip_cons_cons,List.map_cons,List.map_cons,qlq (by simpa using h)]
section
variable {X:Cx} {E E2:XW} {a b c e tg it kx vx:Expr} {f g fk fv:Env→M D} {pos:Pos} {fi:MI} {ifs:List Expr} {cond:Env→M Bool} {T:List Nat} {hd:D→Env→M Env} {ts Mk:List Str} {scope:Scope} {new:Bool}
noncomputable def qeh (d:D):M (List D × Src):=match d with
 | .dct ks _=>M.pure (ks.map qga,[])
 | _=>M.fail
theorem q8a (he:PE X it (tD E f)):PI X tg it (tI E fun Γ=>M.bind (f Γ) qeh):=by
 refine PI.mono (q28 he) fun σ H R ⟨w,Γ,S,rel,hold,q⟩=> ?_
 refine qd (k:=fun d _=>qeh d) rel hold q fun d v S1 w1 H1 l1 rel1 h1 rv q1=> ?_
 unfold qeh at q1
 split at q1
 case h_2=>exact False.elim q1
 case h_1 ks xs =>
   obtain ⟨p,vs,rfl,z,hr,hl,rr⟩:=rv
   refine⟨p,_,rfl,hr,fun o H2 e2 e4 e3=> ?_⟩
   have fz:∀ b,Fz (H1 b) (H2 b):=fun b=>by
     by_cases hb:b=p
     · subst hb
       rcases e4 with e4 | e4
       · exact .inl e4
       · exact .inr ⟨o,_,e4,e2⟩
     · exact .inl (e3 b hb)
   have le:Le w1 H1 w1 H2:=⟨List.prefix_refl _,fun _ z=>z,fun b _=>fz b⟩
   have ho:qe w1 H2 S1:=by
     refine⟨fun b zb=>(fz b).ne (h1.zin b zb),h1.len,h1.nd,fun b m=>(fz b).ne (h1.rin b m),fun l b c e q=> ?_⟩
     by_cases hb:b=p
     · subst hb
       have:=h1.cell l b c e q
       cases c with
       | gone=>trivial
       | lst xs=>exact absurd z this.1
       | dct ks xs=>exact absurd z this.1
       | obj C fs xs=>exact absurd z this.1
     · exact(h1.cell l b c e q).mono le (e3 b hb) id
   have hk:ks.length=vs.length:=hl.trans rr.length
   have lz:(ks.zip vs).length=(ks.map qga).length:=by simp [hk]
   refine q1 _ _ le ho _ ⟨fun w' H' S' i l hh hs hi=> ?_,fun w' H' S' l hh hs=> ?_,fun w' H' S' i x H'' l hh hs hi y=> ?_⟩
   · refine⟨?_,by rw[lz];exact hi⟩
     rcases l.h p z with e | ⟨_,_,e,_⟩
     · rw[e];exact e2
     · rw[e2]at e;cases e
   · refine⟨?_,by rw[lz];exact Nat.le_refl _⟩
     rcases l.h p z with e | ⟨_,_,e,_⟩
     · rw[e];exact e2
     · rw[e2]at e;cases e
   · obtain ⟨rfl,k,v,e,rfl⟩:=y
     refine⟨w',qga k,?_,Le.refl _ _,hh,qsc k⟩
     have:ks[i]? =some k:=by
       rw[List.getElem?_zip_eq_some]at e
       exact e.1
     rw[List.getElem?_map,this];rfl
noncomputable def qfj (new:Bool):List D→M D
 | [d]=>fun S=>match look d S with
   | .dct ks _=>alloc new (.lst (ks.map qga)) S
   | _=>M.fail S
 | _=>M.fail
theorem qzy (hc:X.calm=true):qc9 X (.type "list") (qfj new):=by
 refine⟨_,quq hc,fun E w H S ds vs Q h rv q=> ?_⟩
 unfold qfj at q
 split at q
 case h_2=>exact False.elim q
 case h_1 d =>
   obtain ⟨v,rfl,r⟩:=rv.one_
   cases e1:look d S <;> rw[e1]at q <;> first | exact False.elim q | skip
   case dct ks xs =>
     obtain ⟨p,vs,rfl,hp,hl,hvs⟩:=qc7 h r e1
     refine⟨p,_,rfl,hp,fun l hl'=> ?_⟩
     rw[qlq (hl.trans hvs.length)]
     exact qaw h (qio (vs:=vs)) q hl'
noncomputable def insI (x:Int):List Int→List Int
 | []=>[x]
 | y::ys=>if x≤y then x::y::ys else y::insI x ys
noncomputable def sortI:List Int→List Int
 | []=>[]
 | x::xs=>insI x (sortI xs)
theorem insI_perm (x:Int):∀ ys,(insI x ys).Perm (x::ys)
 | []=>.refl _
 | y::ys=>by
   rw[insI]
   by_cases h:x≤y
   · rw[if_pos h]
   · rw[if_neg h];exact((insI_perm x ys).cons y).trans (.swap _ _ _)
theorem sortI_perm:∀ xs,(sortI xs).Perm xs
 | []=>.refl _
 | x::xs=>(insI_perm x _).trans ((sortI_perm xs).cons x)
theorem qjq (x:Int):∀ {ys:List Int},ys.Pairwise (·≤·)→(insI x ys).Pairwise (·≤·)
 | [],_=>by simp [insI]
 | y ::ys,h=>by
   rw[List.pairwise_cons]at h
   rw[insI]
   by_cases hx:x≤y
   · rw[if_pos hx,List.pairwise_cons,List.pairwise_cons]
     exact⟨fun z hz=>by rcases List.mem_cons.mp hz with rfl | hz;exact hx;exact Int.le_trans hx (h.1 z hz),h⟩
   · rw[if_neg hx,List.pairwise_cons]
     refine⟨fun z hz=> ?_,qjq x h.2⟩
     rcases List.mem_cons.mp ((insI_perm x ys).mem_iff.mp hz)with rfl | hz
     · omega
     · exact h.1 z hz
theorem qei:∀ xs,(sortI xs).Pairwise (·≤·)
 | []=>.nil
 | x::xs=>qjq x (qei xs)
theorem qjr:∀ {xs ys:List Int},xs.Perm ys→xs.Pairwise (·≤·)→ys.Pairwise (·≤·)→xs=ys
 | [],ys,p,_,_=>(List.Perm.nil_eq p)
 | x::xs,[],p,_,_=>by simpa using p.length_eq
 | x ::xs,y::ys,p,h1,h2=>by
   rw[List.pairwise_cons]at h1 h2
   have e:x=y:=by
     have a:x ∈ y::ys:=p.mem_iff.mp (by simp)
     have b:y ∈ x::xs:=p.mem_iff.mpr (by simp)
     rcases List.mem_cons.mp a with e | a
     · exact e
     · rcases List.mem_cons.mp b with e | b
       · exact e.symm
       · have:=h1.1 y b;have:=h2.1 x a;omega
   subst e
   rw[qjr ((List.perm_cons x).mp p) h1.2 h2.2]
theorem qip {xs ys:List Int} (p:xs.Perm ys) (h:xs.Pairwise (·≤·)):xs=sortI ys:=qjr (p.trans (sortI_perm ys).symm) h (qei ys)
noncomputable def qcn (new:Bool):List D→M D
 | [d]=>fun S=>match look d S with
   | .lst xs=>match intsOf xs with
     | some ns=>if decide (ns.length < 64)then alloc new (.lst ((sortI ns).map D.int)) S else .no
     | none=>.no
   | .dct ks _=>match intsOf (ks.map qga)with
     | some ns=>if decide (ns.length < 64)then alloc new (.lst ((sortI ns).map D.int)) S else .no
     | none=>.no
   | _=>.no
 | _=>M.fail
theorem ints_rep {w:Wd} {H:Hp}:∀ ns:List Int,qb w H (ns.map D.int) (ns.map V.int)
 | []=>rfl
 | n::ns=>⟨_,_,rfl,rfl,ints_rep ns⟩
theorem qzz {F:Value} {r r':List V→Hp→VK→Prop} (h:qaj X F r) (h':qaj X F r'):qaj X F (fun xs H Q=>r xs H Q∨r' xs H Q):=fun pins s σ H xs us Q I rv q=>q.elim (h pins s σ H xs us Q I rv) (h' pins s σ H xs us Q I rv)
theorem qx0 (hc:X.calm=true):qc9 X (.builtin "sorted") (qcn new):=by
 refine⟨_,qzz qpz (qp0 hc),fun E w H S ds vs Q h rv q=> ?_⟩
 unfold qcn at q
 split at q
 case h_2=>exact False.elim q
 case h_1 d =>
   obtain ⟨v,rfl,r⟩:=rv.one_
   cases e1:look d S <;> rw[e1]at q <;> first | exact False.elim q | skip
   case lst xs =>
     dsimp only at q
     cases e2:intsOf xs with
     | none=>rw[e2]at q;exact False.elim q
     | some ns =>
       rw[e2]at q
       dsimp only at q
       obtain ⟨p,us,rfl,hp,hvs⟩:=qj h r e1
       split at q
       case isFalse=>exact False.elim q
       case isTrue h64 =>
         refine .inl ⟨p,ns,rfl,SqL.of (by rw[hp,qbn e2 hvs]),of_decide_eq_true h64,fun l ns' hl p1 p2=> ?_⟩
         rw[qip p1 p2]
         exact qaw h (ints_rep _) q hl
   case dct ks xs =>
     dsimp only at q
     cases e2:intsOf (ks.map qga)with
     | none=>rw[e2]at q;exact False.elim q
     | some ns =>
       rw[e2]at q
       dsimp only at q
       obtain ⟨p,us,rfl,hp,hl,hvs⟩:=qc7 h r e1
       split at q
       case isFalse=>exact False.elim q
       case isTrue h64 =>
         refine .inr ⟨p,_,ns,rfl,hp,?_,of_decide_eq_true h64,fun l ns' hl p1 p2=> ?_⟩
         · rw[qlq (hl.trans hvs.length)]
           exact qbn (w:=w) (H:=H) e2 (qio (vs:=us))
         · rw[qip p1 p2]
           exact qaw h (ints_rep _) q hl
noncomputable def dcA (src:Src) (n:Nat) (hd:D→Env→M Env) (cond:Env→M Bool) (fk fv:Env→M D) (Γ:Env):List Key→List D→List D→M (List Key × List D)
 | ks,xs,[]=>M.bind (guard src) fun _=>M.pure (ks,xs)
 | ks,xs,d::ds=>M.bind (guard src) fun _=>M.bind (hd d (List.replicate n none++Γ)) fun Γ1=>M.bind (cond Γ1) fun b =>
   if b=true then M.bind (fk Γ1) fun k=>M.bind (fv Γ1) fun y=>match keyOf k with
     | some j=>dcA src n hd cond fk fv Γ (qbg ks j) (qax ks xs j y) ds
     | none=>M.fail
   else dcA src n hd cond fk fv Γ ks xs ds
noncomputable def dcD (new:Bool) (n:Nat) (fi:MI) (hd:D→Env→M Env) (cond:Env→M Bool) (fk fv:Env→M D) (Γ:Env):M D :=
 M.bind (fi Γ) fun r=>if decide (r.1.length < sizeLine)then M.bind (noErr (dcA r.2 n hd cond fk fv Γ [] [] r.1)) fun p=>alloc new (.dct p.1 p.2)else M.fail
theorem qx1 {ks:List Key} {k:Key}:(qbg ks k).length≤ks.length+1:=by
 unfold qbg
 split
 · omega
 · simp
theorem q29 {α:Type} {ks:List Key} {xs:List α} {k:Key} {y:α} (h:ks.length=xs.length):(qbg ks k).length=(qax ks xs k y).length:=by
 unfold qbg qax
 cases qfb ks k with
 | true=>rw[if_pos rfl,if_pos rfl,qij k y h]
 | false=>rw[if_neg Bool.false_ne_true,if_neg Bool.false_ne_true];simp [h]
theorem qabe {w:Wd} {H:Hp} {σ:St} {Γ:Env} {S:Sto} {src:Src} {items:List D} {J:It} {P:List Key × List D→Sto→Wd→Hp→Prop} {n:Nat} (hT:∀ i ∈ T,i < n) (hk:qag hd) (rel:Rel w H σ Γ) (hold:qe w H S) (wk:Walks J w H src items) (hz:items.length < sizeLine)
   (q:Wp E2 w H (dcA src n hd cond fk fv Γ [] [] items S) P) {Fin:List (Key × V)→Hp→Prop} (hf:∀ ks ds vs S' w' H',Le w H w' H'→qe w' H' S'→ks.length=ds.length→qb w' H' ds vs→P (ks,ds) S' w' H'→Fin (ks.zip vs) H'):DcW J n (tG E2 T hd) (tB E2 cond) (tD E2 fk) (tD E2 fv) σ H Fin:=by
 refine⟨fun i m ys H'=>m=items.length - i∧i≤items.length∧∃ w' S' ks ds vs,Le w H w' H'∧qe w' H' S'∧ks.length=ds.length∧qb w' H' ds vs∧ys=ks.zip vs∧ks.length≤i∧Wp E2 w' H' (dcA src n hd cond fk fv Γ ks ds (items.drop i) S') P,
   ⟨_,rfl,Nat.zero_le _,w,S,[],[],[],Le.refl _ _,hold,rfl,rfl,rfl,Nat.le_refl _,q⟩,?_⟩
 rintro i m ys H' ⟨rfl,hi,w2,S2,ks,ds,vs,l2,h2,hl2,r2,rfl,hlen,q2⟩
 refine⟨by rw[List.length_zip];have:=Nat.min_le_left ks.length vs.length;omega,?_⟩
 by_cases hlt:i < items.length
 · rw [List.drop_eq_getElem_cons hlt,dcA]at q2
   obtain ⟨so,q2⟩:=qa2 q2
   refine .inr ⟨wk.go w2 H' S2 i l2 h2 so hlt,fun ys H'=>∃ w' S' ks ds vs,Le w H w' H'∧qe w' H' S'∧ks.length=ds.length∧qb w' H' ds vs∧ys=ks.zip vs∧ks.length≤i+1∧Wp E2 w' H' (dcA src n hd cond fk fv Γ ks ds (items.drop (i+1)) S') P,fun ys' H' z=>⟨_,by omega,rfl,hlt,z⟩,fun x H'' y=> ?_⟩
   obtain ⟨w3,d,e3,l3,h3,r3⟩:=wk.yld w2 H' S2 i x H'' l2 h2 so hlt y
   have:d=items[i]:=by rw[List.getElem?_eq_getElem hlt]at e3;exact(Option.some.inj e3).symm
   subst this
   have q3:=Wp.bind (q2.later l3)
   refine⟨w3,items[i],_,S2,(rel.mono (l2.trans l3)).cons n,h3,r3,?_⟩
   cases e4:hd items[i] (List.replicate n none++Γ) S2 with
   | no=>rw[e4]at q3;exact q3
   | err x S4=>rw[e4]at q3;exact q3
   | ok Γ4 S4 =>
     rw[e4]at q3
     have hlen4:Γ4.length=n+Γ.length:=by rw[hk _ _ _ _ _ e4];simp
     intro w4 H4 l4 h4 σ4 rel4 b4
     have q4:=q3 w4 H4 l4 h4
     refine⟨rel4.undrop hT b4 (by rw[← rel4.len,hlen4,rel.len]),?_⟩
     refine qcy (k:=fun b Γ1=>if b=true then M.bind (fk Γ1) fun k=>M.bind (fv Γ1) fun y=>match keyOf k with
       | some j=>dcA src n hd cond fk fv Γ (qbg ks j) (qax ks ds j y) (items.drop (i+1))
       | none=>M.fail
       else dcA src n hd cond fk fv Γ ks ds (items.drop (i+1))) rel4 h4 q4 fun bb S5 w5 H5 l5 rel5 h5 q5=> ?_
     have ll:=(l2.trans l3).trans (l4.trans l5)
     have rr:=r2.mono (l3.trans (l4.trans l5))
     cases bb with
     | true =>
       rw[if_pos rfl]
       refine qd (k:=fun k Γ1=>M.bind (fv Γ1) fun y=>match keyOf k with
         | some j=>dcA src n hd cond fk fv Γ (qbg ks j) (qax ks ds j y) (items.drop (i+1))
         | none=>M.fail) rel5 h5 q5 fun dk kv S6 w6 H6 l6 rel6 h6 rk q6=> ?_
       refine qd (k:=fun y _=>match keyOf dk with
         | some j=>dcA src n hd cond fk fv Γ (qbg ks j) (qax ks ds j y) (items.drop (i+1))
         | none=>M.fail) rel6 h6 q6 fun dy yv S7 w7 H7 l7 rel7 h7 ry q7=> ?_
       cases e8:keyOf dk with
       | none=>rw[e8]at q7;exact False.elim q7
       | some j =>
         rw[e8]at q7
         have rr':=(rr.mono l6).mono l7
         refine⟨j,qik rk e8,w7,S7,_,_,qax ks vs j yv,ll.trans (l6.trans l7),h7,q29 hl2,qop ry rr',qr3 j yv (hl2.trans rr'.length),?_,q7⟩
         have:=qx1 (ks:=ks) (k:=j)
         omega
     | false =>
       rw[if_neg Bool.false_ne_true]
       exact⟨w5,S5,ks,ds,vs,ll,h5,hl2,rr,rfl,by omega,q5⟩
 · have e:i=items.length:=by omega
   subst e
   rw[List.drop_length,dcA]at q2
   obtain ⟨so,q2⟩:=qa2 q2
   exact .inl ⟨wk.stop w2 H' S2 l2 h2 so,hf ks ds vs S2 w2 H' l2 h2 hl2 r2 (q2 _ _ (Le.refl _ _) h2)⟩
theorem qz0 {σ:St} {H:Hp} {Q:VK} {n:Nat} (hT:∀ i ∈ T,i < n) (hk:qag hd) (h:tD E (dcD new n fi hd cond fk fv) σ H Q):tDC n (tI E fi) (tG E2 T hd) (tB E2 cond) (tD E2 fk) (tD E2 fv) σ H Q:=by
 obtain ⟨w,Γ,S,rel,hold,q⟩:=h
 refine⟨w,Γ,S,rel,hold,(Wp.bind q).mono fun r S1 w1 H1 l1 h1 q1 J wk=> ?_⟩
 obtain ⟨hz,q1⟩:=Wp.iteF q1
 exact qabe hT hk (rel.mono l1) h1 wk (of_decide_eq_true hz) (Wp.noErr (Wp.bind q1)) fun ks ds vs S' w' H' l' h' hl rv q' D hD=>qol h' hl rv q' hD
theorem r_dc (cc:qav X ts Mk scope) (hc:X.calm=true) (hi:PI X tg it (tI E fi)) (hg:∀ C fp s₀ H₀,PG (cxC X ts Mk scope C fp s₀ H₀) tg (tG E2 T hd)) (hf:∀ C fp s₀ H₀,PF (cxC X ts Mk scope C fp s₀ H₀) ifs (tB E2 cond))
   (hk':∀ C fp s₀ H₀,PE (cxC X ts Mk scope C fp s₀ H₀) kx (tD E2 fk)) (he:∀ C fp s₀ H₀,PE (cxC X ts Mk scope C fp s₀ H₀) vx (tD E2 fv)) (hs:∀ x,foldedSetIterable it X.env x=pure x) (hT:∀ i ∈ T,i < ts.length) (hk:qag hd):PE X (.DictComp kx vx [⟨tg,it,ifs,0⟩] scope pos) (tD E (dcD new ts.length fi hd cond fk fv)) :=
 PE.mono (qabd cc hc hi hg hf hk' he hs) fun σ H Q h=>qz0 hT hk h
theorem q3a {i:Nat} {x:Str} {pos' spos:Pos} (hN:X.N.Nodup) (hix:X.N[i]? =some x) (hx:Loc X.env.scope x) (cc:qav X ts Mk scope) (hc:X.calm=true) (hi:PI X tg it (tI E fi)) (hg:∀ C fp s₀ H₀,PG (cxC X ts Mk scope C fp s₀ H₀) tg (tG E2 T hd)) (hf:∀ C fp s₀ H₀,PF (cxC X ts Mk scope C fp s₀ H₀) ifs (tB E2 cond))
   (hk':∀ C fp s₀ H₀,PE (cxC X ts Mk scope C fp s₀ H₀) kx (tD E2 fk)) (he:∀ C fp s₀ H₀,PE (cxC X ts Mk scope C fp s₀ H₀) vx (tD E2 fv)) (hs:∀ x,foldedSetIterable it X.env x=pure x) (hsw:swapsWith (.DictComp kx vx [⟨tg,it,ifs,0⟩] scope pos) (some (.Name x pos')) spos.line X.env=pure true) (hfn:X.fn x=true∨X.env.scope.names.lookup x=some .local) (hT:∀ i ∈ T,i < ts.length) (hk:qag hd) :
   PS X (.Assign [.Name x pos'] (.DictComp kx vx [⟨tg,it,ifs,0⟩] scope pos) spos) (tS E fun Γ=>M.bind (dcD new ts.length fi hd cond fk fv Γ) fun d=>M.pure (.nx,Γ.set i (some d))):=by
 refine PS.mono (qzx hN hix hx cc hc hi hg hf hk' he hs hsw hfn) fun D σ H ⟨w,Γ,S,rel,hold,q⟩=> ?_
 refine qz0 (new:=new) hT hk (qd (k:=fun d Γ=>M.pure (Fl.nx,Γ.set i (some d))) rel hold q fun dx x S1 w1 H1 l1 rel1 h1 rx q1=> ?_)
 exact(q1 _ _ (Le.refl _ _) h1:qca D (.nx,_) S1 w1 H1) _ (rel1.set rx)
end
end T3
namespace L2
open PySem PySem.Spec PyProof.Rows
section
variable {X:Cx}
noncomputable def qz1 (ns:List Int):Nat:=(firstMet (fun i=>ns.getD i 0) ns.length).length
noncomputable def q8b (ns:List Int) (k:Int):Bool:=(firstMet (fun i=>ns.getD i 0) ns.length).any (·==k)
theorem qx2 (hc:X.calm=true):qaj X (.type "set") (fun xs H Q=>∃ (a:Addr) (ns:List Int),xs=[.ref a]∧SqL X.K H a (ns.map V.int)∧ns.length+1 < scanBound∧∀ p,H p=none→Q (.ref p) (upd H p (.set (q8b ns) (qz1 ns)))):=by
 intro pins s σ H xs us Q I r h
 obtain ⟨a,ns,rfl,hl,hb,q⟩:=h
 obtain ⟨u,rfl,ru⟩:=vals1 r
 cases ru
 obtain ⟨its,rv,pl,_⟩:=I.list hl
 have hlen:=rv.length
 rw[List.length_map]at hlen
 refine call_set_list (items:=its.toArray) (ns:=ns) (I.ok.hd hc) pl.isList (by simpa using qkr rv) (by simpa [← hlen]using hb) fun h' tk hS kp=> ?_
 have hS':h'.SetOf (intKind X.prog X.w) s.heap.objs.size (q8b ns) (qz1 ns):=by
   have e:its.toArray.size=ns.length:=by simp [hlen]
   rw[e]at hS
   exact hS
 exact⟨.ref s.heap.objs.size,_,I.laid (o:=.set (q8b ns) (qz1 ns)) (t':=tk) (fun b o e=>kp b o (Heap.lt_size e) e) (Nat.le_refl _) hS',rfl,q _ (I.hok.fresh (Nat.le_refl _))⟩
theorem qx3:qaj X (.builtin "len") (fun xs H Q=>∃ (a:Addr) (m:Int→Bool) (n:Nat),xs=[.ref a]∧H a=some (.set m n)∧Q (.int n) H):=by
 intro pins s σ H xs us Q I r h
 obtain ⟨a,m,n,rfl,ha,q⟩:=h
 obtain ⟨u,rfl,ru⟩:=vals1 r
 cases ru
 obtain ⟨o,es,ep,t,h1,h2,h3,h4,h5,h6,h7,h8⟩:s.heap.SetOf (intKind X.prog X.w) a m n:=I.hok a _ ha
 refine call_len_set h1 h2 h3 h7 (by unfold scanBound at h6;omega) ?_
 rw[h8]
 exact⟨.int n,H,I.tok _,⟨_,rfl⟩,q⟩
end
end L2
namespace T3
open PySem PySem.Spec PyProof.Rows L2
noncomputable def qdv (d:D):M D:=fun S=>match look d S with
 | .lst xs=>match intsOf xs with
   | some ns=>(if decide (ns.length+1 < scanBound)then M.pure (.int (qz1 ns))else M.fail) S
   | none=>.no
 | _=>.no
section
variable {X:Cx} {E:XW} {f:Env→M D} {e:Expr} {p1 p2 p3 p4:Pos}
theorem qz2 (hc:X.calm=true) (hg1:Gl X "len") (hm1:X.mg "len"=none) (hg2:Gl X "set") (hm2:X.mg "set"=none) (he:PE X e (tD E f)) (hs:starEach [e] X.env=[(false,eval e X.env)]) :
   PE X (.Call (.Name "len" p1) [.Call (.Name "set" p2) [e] [] p3] [] p4) (tD E fun Γ=>M.bind (f Γ) qdv):=by
 refine PE.mono (qrk qx3 hg1 hm1 qy1 (qcu (qh9 (qx2 hc) hg2 hm2 q6e (qcu he qh8 hs) (by decide) (by decide) hs rfl) qh8)) fun σ H Q ⟨w,Γ,S,rel,hold,q⟩=> ?_
 refine qd (k:=fun x _=>qdv x) rel hold q fun dx x S1 w1 H1 l1 rel1 h1 rx q1=> ?_
 unfold qdv at q1
 cases e1:look dx S1 <;> rw[e1]at q1 <;> first | exact False.elim q1 | skip
 rename_i xs
 dsimp only at q1
 cases e2:intsOf xs with
 | none=>rw[e2]at q1;exact False.elim q1
 | some ns =>
   rw[e2]at q1
   obtain ⟨hz,q1⟩:=Wp.iteF q1
   obtain ⟨p,us,rfl,hp,hus⟩:=qj h1 rx e1
   refine⟨p,ns,rfl,by rw[← qbn e2 hus];exact SqL.of hp,of_decide_eq_true hz,fun a ha=> ?_⟩
   refine⟨a,_,_,rfl,qi,?_⟩
   exact q1 _ _ (qc4 h1 ha) (qfa h1 ha) _ rfl
end
set_option genSizeOf false
set_option genInjectivity false
inductive Bi where
 | len | sum | all | any | min | max | list (new:Bool) | tuple | int | str | isi | keys (new:Bool) | sorted (new:Bool)
inductive Mt where
 | append | insert | pop | clear | join | index
mutual
inductive CE where
 | var (i:Nat) | int (i:Int) | str (x:Str) | bl (b:Bool) | non | ty (n:String)
 | bin (new:Bool) (op:Operator) (a b:CE) | neg (a:CE) | cmp (op:CmpOp) (a b:CE) | chain (o p:CmpOp) (a b c:CE)
 | and (a b:CE) | or (a b:CE) | not (a:CE) | one (a:CE) | ife (c:CB) (a b:CE)
 | tup (as:CL) | lst (new:Bool) (as:CL) | dnil (new:Bool)
 | ix (a i:CE) | sl (new:Bool) (a:CE) (lo hi:CO)
 | call (j:Nat) (as:CL) | bi (b:Bi) (as:CL) | mt (m:Mt) (o:CE) (as:CL)
 | lc (new:Bool) (n:Nat) (t:CG) (i:CI) (c:CF) (e:CE) | dc (new:Bool) (n:Nat) (t:CG) (i:CI) (c:CF) (k e:CE)
 | frz (a:CE) | lset (a:CE) | lc2 (n n2:Nat) (t:CG) (i:CI) (t2:CG) (i2:CI) (c:CF) (e:CE)
inductive CB where
 | cmp (op:CmpOp) (a b:CE) | chain (o p:CmpOp) (a b c:CE) | and (a b:CB) | or (a b:CB) | not (a:CB) | one (a:CB) | tru (a:CE)
inductive CL where
 | nil | cons (a:CE) (r:CL)
inductive CO where
 | no | at_ (a:CE)
inductive CI where
 | seq (a:CE) | keys (a:CE) | rng1 (as:CL) | rng2 (as:CL) | enum (as:CL) | zip (as:CL)
inductive CG where
 | nm (i:Nat) | tg (ts:CT) | sub (o i:CE)
inductive CT where
 | nil | cons (a:CG) (r:CT)
inductive CF where
 | yes | if_ (b:CB)
end
mutual
inductive CS where
 | pass | ex (a:CE) | ret (a:CE) | retN | sif (c:CB) (a b:CSL) | asg (t:CG) (e:CE) | set (i:Nat) (e:CE) | par (i j:Nat) (as:CL)
 | aug (op:Operator) (i:Nat) (e:CE) | augIx (op:Operator) (o i e:CE) | sfor (t:CG) (i:CI) (b:CSL) | swhile (c:CB) (b:CSL) | brk | cont
inductive CSL where
 | nil | cons (a:CS) (r:CSL) | gh (i:Nat) (r:CSL)
end
noncomputable def isiB (t n:String):Bool:=t==n || (t=="bool" && n=="int")
noncomputable def tys:List String:=["NoneType","bool","int","str","list","tuple","dict"]
noncomputable def tyn:List String:=["bool","int","str","list","tuple","dict"]
theorem q3b (K:PySem.W.Frag):∀ t ∈ tys,∀ n ∈ tyn,PySem.W.kitOne K (.type t) (.type n)=some (isiB t n):=by
 intro t ht n hn
 simp only [tys,tyn,List.mem_cons,List.not_mem_nil,or_false]at ht hn
 rcases ht with rfl | rfl | rfl | rfl | rfl | rfl | rfl <;> rcases hn with rfl | rfl | rfl | rfl | rfl | rfl <;> rfl
noncomputable def qnf:D→Option String
 | .non=>some "NoneType"
 | .bl _=>some "bool"
 | .int _=>some "int"
 | .str _=>some "str"
 | .lst _=>some "list"
 | .tup _=>some "tuple"
 | _=>none
theorem q3c {d:D} {t:String} (h:qnf d=some t):t ∈ tys:=by
 cases d <;> simp only [qnf]at h <;> first | (cases h;done) | (cases h;decide)
noncomputable def qsd (ds:List D):M D:=match ds with
 | [d,.ty n]=>fun S=>match qnf (look d S)with
   | some t=>(if tyn.contains n then M.pure (.bl (isiB t n))else M.fail) S
   | none=>.no
 | _=>M.fail
theorem q3d {K:PySem.W.Frag} {w:Wd} {H:Hp} {S:Sto} {d:D} {v:V} {t:String} (h:qe w H S) (r:Rep w H d v) (e:qnf (look d S)=some t):qhb K H v (.type t):=by
 cases e1:look d S <;> rw[e1]at e <;> simp only [qnf]at e <;> first | (cases e;done) | skip
 case non=>cases e;rw[qhh r e1];exact .non
 case bl b=>cases e;rw[qvu r e1];exact .bl b
 case int b=>cases e;rw[qr r e1];exact .int b
 case str b=>cases e;rw[qbv r e1];exact .str b
 case lst xs=>cases e;obtain ⟨p,vs,rfl,hp,_⟩:=qj h r e1;exact .lst hp
 case tup xs=>cases e;obtain ⟨p,vs,rfl,hp,_⟩:=qaf h r e1;exact .tup hp
theorem q8c {X:Cx}:qc9 X (.builtin "isinstance") qsd:=by
 refine⟨_,qy2,fun E w H S ds vs Q h rv q=> ?_⟩
 unfold qsd at q
 split at q
 case h_2=>exact False.elim q
 case h_1 d n =>
   obtain ⟨v,v',rfl,r,r'⟩:=rv.two_
   cases (show v'=.ty n from r')
   cases e:qnf (look d S)with
   | none=>rw[e]at q;exact False.elim q
   | some t =>
     rw[e]at q
     obtain ⟨hn,q⟩:=Wp.iteF q
     exact⟨v,n,_,_,rfl,q3d h r e,q3b _ t (q3c e) n (by simpa using hn),now h (d:=.bl _) rfl q⟩
noncomputable def Bi.name:Bi→Str
 | .len=>"len" | .sum=>"sum" | .all=>"all" | .any=>"any" | .min=>"min" | .max=>"max" | .list _=>"list" | .tuple=>"tuple" | .int=>"int" | .str=>"str" | .isi=>"isinstance" | .keys _=>"list" | .sorted _=>"sorted"
noncomputable def biF:Bi→List D→M D
 | .len=>qr1 | .sum=>qbs qm8 | .all=>qbs qm9 | .any=>qbs qr2 | .min=>minD | .max=>maxD | .list new=>qhl new | .tuple=>qxp | .int=>intD | .str=>qxq | .isi=>qsd | .keys new=>qfj new | .sorted new=>qcn new
noncomputable def Mt.name:Mt→Str
 | .append=>"append" | .insert=>"insert" | .pop=>"pop" | .clear=>"clear" | .join=>"join" | .index=>"index"
noncomputable def mtF:Mt→D→List D→M D
 | .append=>qpt | .insert=>qpu | .pop=>q75 | .clear=>quo | .join=>joinM | .index=>qpv
noncomputable def mtT:Mt→D→Bool
 | .join=>isS
 | _=>isL
noncomputable def qse:CT→Nat
 | .cons _ r=>qse r+1
 | .nil=>0
noncomputable def qg (Φ:List Fd) (fns:List (Str × Nat × Nat)) (j:Nat) (ds:List D):M D:=match Φ[j]?,fns[j]? with
 | some F,some (_,n,_)=>qv n F ds
 | _,_=>M.fail
mutual
noncomputable def evE (Φ:List Fd) (fns:List (Str × Nat × Nat)):CE→Env→M D
 | .var i=>qfd i
 | .int i=>fun _=>M.pure (.int i)
 | .str x=>fun _=>M.pure (.str x)
 | .bl b=>fun _=>M.pure (.bl b)
 | .non=>fun _=>M.pure .non
 | .ty n=>fun _=>M.pure (.ty n)
 | .bin new op a b=>fun Γ=>M.bind (evE Φ fns a Γ) fun x=>M.bind (evE Φ fns b Γ) fun y=>qf8 new op x y
 | .neg a=>fun Γ=>M.bind (evE Φ fns a Γ) qul
 | .cmp op a b=>fun Γ=>M.bind (evE Φ fns a Γ) fun x=>M.bind (evE Φ fns b Γ) fun y=>qa6 op x y
 | .chain o p a b c=>qih (qa6 o) (qa6 p) (evE Φ fns a) (evE Φ fns b) (evE Φ fns c)
 | .and a b=>q67 (evE Φ fns a) (evE Φ fns b)
 | .or a b=>orV (evE Φ fns a) (evE Φ fns b)
 | .one a=>evE Φ fns a
 | .not a=>q68 (evE Φ fns a)
 | .ife c a b=>ifE (evB Φ fns c) (evE Φ fns a) (evE Φ fns b)
 | .tup as=>fun Γ=>M.bind (evA Φ fns as Γ) mkT
 | .lst new as=>fun Γ=>M.bind (evA Φ fns as Γ) (mkL new)
 | .dnil new=>fun _=>alloc new (.dct [] [])
 | .ix a i=>fun Γ=>M.bind (evE Φ fns a Γ) fun x=>M.bind (evE Φ fns i Γ) fun y S=>ixM (look x S) y S
 | .sl new a lo hi=>slD new (evE Φ fns a) (evO Φ fns lo) (evO Φ fns hi)
 | .call j as=>fun Γ=>M.bind (evA Φ fns as Γ) (qg Φ fns j)
 | .bi b as=>fun Γ=>M.bind (evA Φ fns as Γ) (biF b)
 | .mt m o as=>mtD (mtT m) (evE Φ fns o) (evA Φ fns as) (mtF m)
 | .lc new n t i c e=>lcD new n (evI Φ fns i) (evG Φ fns t) (evF Φ fns c) (evE Φ fns e)
 | .dc new n t i c k e=>dcD new n (evI Φ fns i) (evG Φ fns t) (evF Φ fns c) (evE Φ fns k) (evE Φ fns e)
 | .frz a=>fun Γ=>M.bind (evE Φ fns a Γ) qd3
 | .lset a=>fun Γ=>M.bind (evE Φ fns a Γ) qdv
 | .lc2 n n2 t i t2 i2 c e=>q70 n n2 (evI Φ fns i) (evG Φ fns t) (evI Φ fns i2) (evG Φ fns t2) (evF Φ fns c) (evE Φ fns e)
noncomputable def evB (Φ:List Fd) (fns:List (Str × Nat × Nat)):CB→Env→M Bool
 | .cmp op a b=>fun Γ=>M.bind (M.bind (evE Φ fns a Γ) fun x=>M.bind (evE Φ fns b Γ) fun y=>qa6 op x y) asB
 | .chain o p a b c=>fun Γ=>M.bind (qih (qa6 o) (qa6 p) (evE Φ fns a) (evE Φ fns b) (evE Φ fns c) Γ) asB
 | .and a b=>q64 (evB Φ fns a) (evB Φ fns b)
 | .or a b=>orB (evB Φ fns a) (evB Φ fns b)
 | .one a=>evB Φ fns a
 | .not a=>q65 (evB Φ fns a)
 | .tru a=>fun Γ=>M.bind (evE Φ fns a Γ) qhj
noncomputable def evF (Φ:List Fd) (fns:List (Str × Nat × Nat)):CF→Env→M Bool
 | .yes=>fun _=>M.pure true
 | .if_ a=>evB Φ fns a
noncomputable def evA (Φ:List Fd) (fns:List (Str × Nat × Nat)):CL→Env→M (List D)
 | .nil=>fun _=>M.pure []
 | .cons a r=>qzo (evE Φ fns a) (evA Φ fns r)
noncomputable def evO (Φ:List Fd) (fns:List (Str × Nat × Nat)):CO→Env→M (Option Int)
 | .no=>fun _=>M.pure none
 | .at_ a=>fun Γ=>M.bind (evE Φ fns a Γ) asI
noncomputable def evI (Φ:List Fd) (fns:List (Str × Nat × Nat)):CI→MI
 | .seq a=>fun Γ=>M.bind (evE Φ fns a Γ) qm
 | .keys a=>fun Γ=>M.bind (evE Φ fns a Γ) qeh
 | .rng1 as=>fun Γ=>M.bind (evA Φ fns as Γ) qdu
 | .rng2 as=>fun Γ=>M.bind (evA Φ fns as Γ) qgl
 | .enum as=>fun Γ=>M.bind (evA Φ fns as Γ) qcb
 | .zip as=>fun Γ=>M.bind (evA Φ fns as Γ) qfi
noncomputable def evG (Φ:List Fd) (fns:List (Str × Nat × Nat)):CG→D→Env→M Env
 | .nm i=>q7q i
 | .tg ts=>qum (qse ts) (evT Φ fns ts)
 | .sub o i=>q7t (evE Φ fns o) (evE Φ fns i)
noncomputable def evT (Φ:List Fd) (fns:List (Str × Nat × Nat)):CT→List D→Env→M Env
 | .nil=>qzp
 | .cons a r=>qpq (evG Φ fns a) (evT Φ fns r)
end
mutual
noncomputable def evS (Φ:List Fd) (fns:List (Str × Nat × Nat)):CS→MS
 | .pass=>qvz
 | .ex a=>fun Γ=>M.bind (evE Φ fns a Γ) fun _=>M.pure (.nx,Γ)
 | .ret a=>fun Γ=>M.bind (evE Φ fns a Γ) fun d=>M.pure (.rt d,Γ)
 | .retN=>fun Γ=>M.pure (.rt .non,Γ)
 | .sif c a b=>ifS (evB Φ fns c) (qw Φ fns a) (qw Φ fns b)
 | .asg t e=>fun Γ=>M.bind (evE Φ fns e Γ) fun d=>M.bind (evG Φ fns t d Γ) fun Γ'=>M.pure (.nx,Γ')
 | .set i e=>fun Γ=>M.bind (evE Φ fns e Γ) fun d=>M.pure (.nx,Γ.set i (some d))
 | .par i j as=>parS i j (evA Φ fns as)
 | .aug op i e=>q7u op i (evE Φ fns e)
 | .augIx op o i e=>augIx op (evE Φ fns o) (evE Φ fns i) (evE Φ fns e)
 | .sfor t i b=>q20 (evI Φ fns i) (evG Φ fns t) (qw Φ fns b)
 | .swhile c b=>qda (evB Φ fns c) (qw Φ fns b)
 | .brk=>fun Γ=>M.pure (.bk,Γ)
 | .cont=>fun Γ=>M.pure (.ct,Γ)
noncomputable def qw (Φ:List Fd) (fns:List (Str × Nat × Nat)):CSL→MS
 | .nil=>qvz
 | .cons a r=>seqS (evS Φ fns a) (qw Φ fns r)
 | .gh i r=>ghS i (qw Φ fns r)
end
set_option genInjectivity false in
structure Sx where
 N:List Str
 sc:Scope
 fnb:Str→Bool
 fns:List (Str × Nat × Nat)
 L:Nat
 bs:List Str
noncomputable def Sx.inner (s:Sx) (ts Mk:List Str) (scope:Scope):Sx:={ s with N:=ts++Mk,sc:=qof scope s.sc,fnb:=fun x=>scope.names.lookup x==some .cell }
noncomputable def q8d (sc:Scope) (x:Str):Bool:=match sc.names.lookup x with
 | some .local=>true
 | some .cell=>true
 | some .free=>true
 | _=>false
noncomputable def q8e (sc:Scope) (x:Str):Bool:=match sc.names.lookup x with
 | some .local=>true
 | some .cell=>true
 | _=>false
noncomputable def lcl (sc:Scope) (x:Str):Bool:=sc.names.lookup x==some .local
noncomputable def qlr (s:Sx) (i:Nat) (x:Str):Bool:=decide (s.N[i]? =some x) && q8d s.sc x && !(x==("__debug__":Str)) && !(x==("__classdict__":Str))
noncomputable def qls (s:Sx) (i:Nat) (x:Str):Bool:=decide (s.N[i]? =some x) && q8e s.sc x && (s.fnb x || lcl s.sc x)
noncomputable def qz3 (s:Sx) (x:Str):Bool:=s.sc.names.lookup x==some .globalImplicit && !(x==("__debug__":Str)) && decide (x ≠ "__name__")
noncomputable def okB (s:Sx) (x:Str):Bool:=qz3 s x && s.bs.any (fun y=>decide (y=x))
mutual
noncomputable def tgs:CG→List Nat
 | .nm i=>[i]
 | .tg ts=>qz4 ts
 | .sub _ _=>[]
noncomputable def qz4:CT→List Nat
 | .cons a r=>tgs a++qz4 r
 | .nil=>[]
end
mutual
noncomputable def nms:CG→Bool
 | .nm _=>true
 | .tg ts=>q3e ts
 | .sub _ _=>false
noncomputable def q3e:CT→Bool
 | .cons a r=>nms a && q3e r
 | .nil=>true
end
noncomputable def isTup:Expr→Bool
 | .Tuple _ _ _=>true
 | _=>false
noncomputable def tsN:Expr→List Str
 | .Name x _=>[x]
 | _=>[]
noncomputable def qai:Expr→List Str
 | .Name x _=>[x]
 | .Tuple es _ _=>es.flatMap fun e=>match e with
   | .Tuple es' _ _=>es'.flatMap tsN
   | e=>tsN e
 | _=>[]
noncomputable def qiq (N:List Str) (t:Expr):List Str:=N.map fun x=>if (qai t).any (fun y=>decide (y=x))then (".":Str)++x else x
noncomputable def mkN (N ts:List Str):List Str:=N.map fun x=>if ts.any (fun y=>decide (y=x))then (".":Str)++x else x
mutual
noncomputable def qae (s:Sx):CE→Expr→Bool
 | .var i,e=>match e with
   | .Name x _=>qlr s i x
   | _=>false
 | .int i,e=>match e with
   | .Constant (.int j) _ _=>decide (i=j)
   | _=>false
 | .str i,e=>match e with
   | .Constant (.str j) _ _=>decide (i=j)
   | _=>false
 | .bl i,e=>match e with
   | .Constant (.bool j) _ _=>decide (i=j)
   | _=>false
 | .non,e=>match e with
   | .Constant .none _ _=>true
   | _=>false
 | .ty n,e=>match e with
   | .Name x _=>decide (x=(n:Str)) && okB s x && tyn.contains n
   | _=>false
 | .bin _ op a b,e=>match e with
   | .BinOp x o y _=>decide (op=o) && qae s a x && qae s b y
   | _=>false
 | .neg a,e=>match e with
   | .UnaryOp .USub x _=>qae s a x
   | _=>false
 | .cmp op a b,e=>match e with
   | .Compare x [o] [y] _=>decide (op=o) && qcr y && qae s a x && qae s b y
   | _=>false
 | .chain o p a b c,e=>match e with
   | .Compare x [o',p'] [y,z] _=>decide (o=o') && decide (p=p') && qcr z && qae s a x && qae s b y && qae s c z
   | _=>false
 | .and a b,e=>match e with
   | .BoolOp .And (x::y::r) p=>qae s a x && qae s b (.BoolOp .And (y::r) p)
   | _=>false
 | .or a b,e=>match e with
   | .BoolOp .Or (x::y::r) p=>qae s a x && qae s b (.BoolOp .Or (y::r) p)
   | _=>false
 | .one a,e=>match e with
   | .BoolOp _ [x] _=>qae s a x
   | _=>false
 | .not a,e=>match e with
   | .UnaryOp .Not x _=>qae s a x
   | _=>false
 | .ife c a b,e=>match e with
   | .IfExp z x y _=>qj8 s c z && qae s a x && qae s b y
   | _=>false
 | .tup as,e=>match e with
   | .Tuple es _ _=>qir s as es
   | _=>false
 | .lst _ as,e=>match e with
   | .List es _=>qir s as es
   | _=>false
 | .dnil _,e=>match e with
   | .Dict [] [] _=>true
   | _=>false
 | .ix a i,e=>match e with
   | .Subscript x y _=>qd4 y && qae s a x && qae s i y
   | _=>false
 | .sl _ a lo hi,e=>match e with
   | .Subscript x (.Slice l h none _) _=>qae s a x && q8f s lo l && q8f s hi h
   | _=>false
 | .call j as,e=>match e with
   | .Call (.Name x _) es [] _=>qz3 s x && (match s.fns[j]? with | some (y,n,k)=>decide (x=y) && decide (n=es.length) && decide (k≤s.L) | none=>false) && es.all notStar && qir s as es
   | _=>false
 | .bi b as,e=>match e with
   | .Call (.Name x _) es [] _=>okB s x && decide (x=b.name) && !es.isEmpty && es.all notStar && qir s as es
   | _=>false
 | .mt m o as,e=>match e with
   | .Call (.Attribute x n p) es [] q=>decide (n=m.name) && qll x && (p.endLine==q.line) && es.all notStar && decide (es.length < 30) && qae s o x && qir s as es
   | _=>false
 | .lc _ n t i c el,e=>match e with
   | .ListComp x [g] scope _=>decide (g.is_async=0) && qib s.N s.sc (qai g.target) (qiq s.N g.target) scope && qcr g.iter && qx4 s i g.target g.iter && qsf (s.inner (qai g.target) (qiq s.N g.target) scope) t g.target && (tgs t).all (fun k=>decide (k < n)) && nms t && q3f (s.inner (qai g.target) (qiq s.N g.target) scope) c g.ifs && qae (s.inner (qai g.target) (qiq s.N g.target) scope) el x && decide ((qai g.target).length=n)
   | _=>false
 | .dc _ n t i c k el,e=>match e with
   | .DictComp y x [g] scope _=>decide (g.is_async=0) && qib s.N s.sc (qai g.target) (qiq s.N g.target) scope && qcr g.iter && qx4 s i g.target g.iter && qsf (s.inner (qai g.target) (qiq s.N g.target) scope) t g.target && (tgs t).all (fun k=>decide (k < n)) && nms t && q3f (s.inner (qai g.target) (qiq s.N g.target) scope) c g.ifs && qae (s.inner (qai g.target) (qiq s.N g.target) scope) k y && qae (s.inner (qai g.target) (qiq s.N g.target) scope) el x && decide ((qai g.target).length=n)
   | _=>false
 | .frz a,e=>qae s a e
 | .lset a,e=>match e with
   | .Call (.Name x _) [w] [] _=>match w with
     | .Call (.Name y _) [z] [] _=>decide (x="len") && decide (y="set") && okB s x && okB s y && notStar z && qae s a z
     | _=>false
   | _=>false
 | .lc2 n n2 t i t2 i2 c el,e=>match e with
   | .ListComp x [g,g2] scope _=>decide (g.is_async=0) && decide (g2.is_async=0) && g.ifs.isEmpty && qib s.N s.sc (qai g2.target++qai g.target) (mkN s.N (qai g2.target++qai g.target)) scope && qcr g.iter && qcr g2.iter && qx4 s i g.target g.iter && qsf (s.inner (qai g2.target++qai g.target) (mkN s.N (qai g2.target++qai g.target)) scope) t g.target && (tgs t).all (fun k=>decide (k < n)) && nms t && qx4 (s.inner (qai g2.target++qai g.target) (mkN s.N (qai g2.target++qai g.target)) scope) i2 g2.target g2.iter && qsf (s.inner (qai g2.target++qai g.target) (mkN s.N (qai g2.target++qai g.target)) scope) t2 g2.target && (tgs t2).all (fun k=>decide (k < n2)) && nms t2 && q3f (s.inner (qai g2.target++qai g.target) (mkN s.N (qai g2.target++qai g.target)) scope) c g2.ifs && qae (s.inner (qai g2.target++qai g.target) (mkN s.N (qai g2.target++qai g.target)) scope) el x && decide (n=(qai g2.target++qai g.target).length) && decide (n2≤n)
   | _=>false
noncomputable def qj8 (s:Sx):CB→Expr→Bool
 | .cmp op a b,e=>match e with
   | .Compare x [o] [y] _=>decide (op=o) && qcr y && qae s a x && qae s b y
   | _=>false
 | .chain o p a b c,e=>match e with
   | .Compare x [o',p'] [y,z] _=>decide (o=o') && decide (p=p') && qcr z && qae s a x && qae s b y && qae s c z
   | _=>false
 | .and a b,e=>match e with
   | .BoolOp .And (x::y::r) p=>qj8 s a x && qj8 s b (.BoolOp .And (y::r) p)
   | _=>false
 | .or a b,e=>match e with
   | .BoolOp .Or (x::y::r) p=>qj8 s a x && qj8 s b (.BoolOp .Or (y::r) p)
   | _=>false
 | .one a,e=>match e with
   | .BoolOp _ [x] _=>qj8 s a x
   | _=>false
 | .not a,e=>match e with
   | .UnaryOp .Not x _=>qj8 s a x
   | _=>false
 | .tru a,e=>plainT e && qae s a e
noncomputable def q3f (s:Sx):CF→List Expr→Bool
 | .yes,es=>es.isEmpty
 | .if_ a,es=>match es with
   | [x]=>qj8 s a x
   | _=>false
noncomputable def qir (s:Sx):CL→List Expr→Bool
 | .nil,es=>es.isEmpty
 | .cons a r,es=>match es with
   | x::xs=>notStar x && qae s a x && qir s r xs
   | []=>false
noncomputable def q8f (s:Sx):CO→Option Expr→Bool
 | .no,o=>o.isNone
 | .at_ a,o=>match o with
   | some x=>qae s a x
   | none=>false
noncomputable def qx4 (s:Sx):CI→Expr→Expr→Bool
 | .seq a,_,e=>qae s a e
 | .keys a,_,e=>qae s a e
 | .rng1 as,_,e=>match e with
   | .Call (.Name x _) [y] [] _=>decide (x="range") && okB s x && notStar y && qir s as [y]
   | _=>false
 | .rng2 as,_,e=>match e with
   | .Call (.Name x _) [y,z] [] _=>decide (x="range") && okB s x && notStar y && notStar z && qir s as [y,z]
   | _=>false
 | .enum as,t,e=>match e with
   | .Call (.Name x _) [y] [] _=>isTup t && decide (x="enumerate") && okB s x && notStar y && qir s as [y]
   | _=>false
 | .zip as,t,e=>match e with
   | .Call (.Name x _) [y,z] [] _=>isTup t && decide (x="zip") && okB s x && notStar y && notStar z && qir s as [y,z]
   | _=>false
noncomputable def qsf (s:Sx):CG→Expr→Bool
 | .nm i,e=>match e with
   | .Name x _=>qls s i x
   | _=>false
 | .tg ts,e=>match e with
   | .Tuple es _ _=>es.all notStar && decide (es.length=qse ts) && q8g s ts es
   | _=>false
 | .sub o i,e=>match e with
   | .Subscript x y _=>qd4 y && qae s o x && qae s i y
   | _=>false
noncomputable def q8g (s:Sx):CT→List Expr→Bool
 | .nil,es=>es.isEmpty
 | .cons a r,es=>match es with
   | x::xs=>notStar x && qsf s a x && q8g s r xs
   | []=>false
end
structure Gd (CX:CXT) (Φ:List Fd) (s:Sx) (X:Cx) (E':XK):Prop where
 hN:X.N=s.N
 hsc:X.env.scope=s.sc
 hfn:X.fn=s.fnb
 calm:X.calm=true
 room:qct s.L X.A
 own:PassesOwn (model X.prog X.w) X.A X.env X.xe
 pass:Passes CX X E'
 nd:s.N.Nodup
 blt:∀ b ∈ s.bs,X.mg b=none
 fns:∀ (j:Nat) (x:Str) (n k:Nat),s.fns[j]? =some (x,n,k)→∃ F,Φ[j]? =some F∧FnT CX X.prog X.w X.K X.mg X.base x n k F
section
variable {CX:CXT} {Φ:List Fd} {s:Sx} {X:Cx} {E':XK}
theorem qz5 {sc:Scope} {x:Str} (h:q8d sc x=true):Vis sc x:=by
 unfold q8d at h
 unfold Vis
 cases e:sc.names.lookup x with
 | none=>rw[e]at h;cases h
 | some k=>rw[e]at h;cases k <;> first | (cases h;done) | simp
theorem q8h {sc:Scope} {x:Str} (h:q8e sc x=true):L2.Loc sc x:=by
 unfold q8e at h
 unfold L2.Loc
 cases e:sc.names.lookup x with
 | none=>rw[e]at h;cases h
 | some k=>rw[e]at h;cases k <;> first | (cases h;done) | simp
theorem Gd.var (G:Gd CX Φ s X E') {i:Nat} {x:Str} {pos:Pos} (h:qlr s i x=true) {E:XW}:PE X (.Name x pos) (tD E (qfd i)):=by
 unfold qlr at h
 simp only [Bool.and_eq_true,Bool.not_eq_true',decide_eq_true_eq]at h
 exact qaaj (by rw[G.hN];exact h.1.1.1) (by rw[G.hsc];exact qz5 h.1.1.2) h.1.2 h.2
theorem Gd.gl (G:Gd CX Φ s X E') {x:Str} (h:qz3 s x=true):Gl X x∧(x==("__debug__":Str))=false∧x ≠ "__name__":=by
 unfold qz3 at h
 simp only [Bool.and_eq_true,Bool.not_eq_true',decide_eq_true_eq,beq_iff_eq]at h
 exact⟨by unfold Gl Env.kindOf;rw[G.hsc];exact h.1.1,h.1.2,h.2⟩
theorem Gd.bl (G:Gd CX Φ s X E') {x:Str} (h:okB s x=true):Gl X x∧(x==("__debug__":Str))=false∧x ≠ "__name__"∧X.mg x=none:=by
 unfold okB at h
 rw[Bool.and_eq_true,List.any_eq_true]at h
 obtain ⟨h1,y,hy,e⟩:=h
 obtain ⟨a,b,c⟩:=G.gl h1
 have:y=x:=of_decide_eq_true e
 exact⟨a,b,c,this ▸ G.blt y hy⟩
theorem Gd.lc (G:Gd CX Φ s X E') {i:Nat} {x:Str} (h:qls s i x=true):X.N[i]? =some x∧Loc X.env.scope x∧(X.fn x=true∨X.env.scope.names.lookup x=some .local):=by
 unfold qls at h
 simp only [Bool.and_eq_true,decide_eq_true_eq,Bool.or_eq_true]at h
 refine⟨by rw[G.hN];exact h.1.1,by rw[G.hsc];exact q8h h.1.2,?_⟩
 rcases h.2 with z | z
 · exact .inl (by rw[G.hfn];exact z)
 · unfold lcl at z
   exact .inr (by rw[G.hsc];simpa using z)
noncomputable def qp1 (CX:CXT):Prop:=∀ outer H s e s',¬ CX outer H s E0 e s'
theorem Gd.inner (hc:qp1 CX) (G:Gd CX Φ s X E') {ts Mk:List Str} {scope:Scope} (ok:qib s.N s.sc ts Mk scope=true) (C:Addr) (fp:List Addr) (s₀:Shared) (H₀:Hp):Gd CX Φ (s.inner ts Mk scope) (cxC X ts Mk scope C fp s₀ H₀) E0 where
 hN:=rfl
 hsc:=by
   show (relabel scope X.env)=qof scope s.sc
   rw[← G.hsc]
   rfl
 hfn:=rfl
 calm:=G.calm
 room:=G.room
 own:=PassesOwn.never
 pass:=fun pins σ H s e s' _ h=>hc _ _ _ _ _ h
 nd:=(qfy (X:=X) G.hN G.hsc ok).nd
 blt:=G.blt
 fns:=G.fns
end
end T3
set_option maxHeartbeats 1000000
namespace T3
open PySem PySem.Spec PyProof.Rows L2
section
variable {Φ:List Fd} {fns:List (Str × Nat × Nat)}
mutual
theorem qgm:∀ (t:CG),nms t=true→qag (evG Φ fns t)
 | .nm i,_=>by rw[evG];exact qxv i
 | .tg ts,h=>by
   rw[evG]
   rw[nms]at h
   intro d Γ S Γ' S' e
   unfold qum at e
   cases e1:look d S <;> rw[e1]at e <;> first | (cases e;done) | skip
   · dsimp only at e
     split at e
     · exact qur ts h _ _ _ _ _ e
     · cases e
   · dsimp only at e
     split at e
     · exact qur ts h _ _ _ _ _ e
     · cases e
 | .sub _ _,h=>by simp [nms]at h
theorem qur:∀ (t:CT),q3e t=true→∀ ds Γ S Γ' S',evT Φ fns t ds Γ S=.ok Γ' S'→Γ'.length=Γ.length
 | .nil,_,ds,Γ,S,Γ',S',e=>by
   rw[evT]at e
   unfold qzp at e
   split at e
   · cases e;rfl
   · cases e
 | .cons a r,h,ds,Γ,S,Γ',S',e=>by
   rw[evT]at e
   rw[q3e,Bool.and_eq_true]at h
   unfold qpq at e
   split at e
   · rename_i d ds
     unfold M.bind at e
     cases e1:evG Φ fns a d Γ S with
     | no=>rw[e1]at e;cases e
     | err x S1=>rw[e1]at e;cases e
     | ok Γ1 S1 =>
       rw[e1]at e
       rw[qur r h.2 _ _ _ _ _ e,qgm a h.1 _ _ _ _ _ e1]
   · cases e
end
end
section
variable {CX:CXT} {Φ:List Fd} (hcx:qp1 CX)
theorem dec {p:Prop} [Decidable p] (h:decide p=true):p:=of_decide_eq_true h
theorem Gd.units {s:Sx} {X:Cx} {E':XK} (G:Gd CX Φ s X E'):X.A.units+64 < cLine:=G.room.units
theorem Gd.units1 {s:Sx} {X:Cx} {E':XK} (G:Gd CX Φ s X E'):X.A.units+1 < cLine:=Nat.lt_of_le_of_lt (by omega) G.room.units
theorem qabg {s:Sx} {X:Cx} {E':XK} (G:Gd CX Φ s X E') {E:XW} {e:Expr} {es:List Expr} {fs:Env→M (List D)} {p pos:Pos} {x:Str} (b:Bi) (hb:okB s x=true) (hx:x=b.name) (hst:(e::es).all notStar=true) (ha:PA X (e::es) (tL E fs)) :
   PE X (.Call (.Name x p) (e::es) [] pos) (tD E fun Γ=>M.bind (fs Γ) (biF b)):=by
 obtain ⟨g1,g2,g3,g4⟩:=G.bl hb
 rw[List.all_cons,Bool.and_eq_true]at hst
 have h1:=qan (es:=es) (env:=X.env) hst.1
 have h2:=qln (pos:=pos) (env:=X.env) hst.2
 subst hx
 cases b with
 | len=>exact qdk q7c g1 g4 qy1 ha g3 g2 h1 h2
 | sum=>exact qdk (q7d G.calm) g1 g4 q6i ha g3 g2 h1 h2
 | all=>exact qdk (q7e G.calm) g1 g4 q6j ha g3 g2 h1 h2
 | any=>exact qdk (q7f G.calm) g1 g4 q6k ha g3 g2 h1 h2
 | min=>exact qdk (q7g G.calm) g1 g4 q6g ha g3 g2 h1 h2
 | max=>exact qdk (q7h G.calm) g1 g4 q6h ha g3 g2 h1 h2
 | list new=>exact qff q2u g1 g4 qkl ha g3 g2 h1 h2
 | keys new=>exact qff (qzy G.calm) g1 g4 qkl ha g3 g2 h1 h2
 | sorted new=>exact qdk (qx0 G.calm) g1 g4 qxd ha g3 g2 h1 h2
 | tuple=>exact qff q7i g1 g4 qrm ha g3 g2 h1 h2
 | int=>exact qff q7j g1 g4 qyz ha g3 g2 h1 h2
 | str=>exact qff q7k g1 g4 qy0 ha g3 g2 h1 h2
 | isi=>exact qdk q8c g1 g4 qm6 ha g3 g2 h1 h2
theorem qabh {s:Sx} {X:Cx} {E':XK} (G:Gd CX Φ s X E') {E:XW} {o:Expr} {es:List Expr} {f:Env→M D} {fs:Env→M (List D)} {p q:Pos} {n:Str} (m:Mt) (hn:n=m.name) (hc:qll o=true) (hl:(p.endLine==q.line)=true) (hst:es.all notStar=true) (hln:es.length < 30)
   (ho:PE X o (tD E f)) (ha:PA X es (tL E fs)) (h0:es=[]→fs=fun _=>M.pure []):PE X (.Call (.Attribute o n p) es [] q) (tD E (mtD (mtT m) f fs (mtF m))):=by
 subst hn
 cases es with
 | nil =>
   rw[h0 rfl]
   cases m with
   | append=>exact qor PySem.F.plainAttrs_list PySem.F.slot_list_append PySem.F.type_list_append qlj qne ho (qbl hc) hl
   | insert=>exact qor PySem.F.plainAttrs_list PySem.F.slot_list_insert PySem.F.type_list_insert qlk qne ho (qbl hc) hl
   | pop=>exact qor PySem.F.plainAttrs_list PySem.F.slot_list_pop PySem.F.type_list_pop qv3 qne ho (qbl hc) hl
   | clear=>exact qor PySem.F.plainAttrs_list PySem.F.slot_list_clear PySem.F.type_list_clear qos qne ho (qbl hc) hl
   | join=>exact qor PySem.F.plainAttrs_str PySem.F.slot_str_join PySem.F.type_str_join qr7 ty_S ho (qbl hc) hl
   | index=>exact qor PySem.F.plainAttrs_list PySem.F.slot_list_index PySem.F.type_list_index qot qne ho (qbl hc) hl
 | cons e es =>
   have hst':=hst
   rw[List.all_cons,Bool.and_eq_true]at hst'
   have h1:=qan (es:=es) (env:=X.env) hst'.1
   have h2:=qln (pos:=q) (env:=X.env) hst'.2
   have h3:=q77 (cpos:=q) (env:=X.env) hst hln
   cases m with
   | append=>exact qxx PySem.F.plainAttrs_list PySem.F.slot_list_append PySem.F.type_list_append qlj qne ho ha (qbl hc) h3 hl h1 h2
   | insert=>exact qxx PySem.F.plainAttrs_list PySem.F.slot_list_insert PySem.F.type_list_insert qlk qne ho ha (qbl hc) h3 hl h1 h2
   | pop=>exact qxx PySem.F.plainAttrs_list PySem.F.slot_list_pop PySem.F.type_list_pop qv3 qne ho ha (qbl hc) h3 hl h1 h2
   | clear=>exact qxx PySem.F.plainAttrs_list PySem.F.slot_list_clear PySem.F.type_list_clear qos qne ho ha (qbl hc) h3 hl h1 h2
   | join=>exact qxx PySem.F.plainAttrs_str PySem.F.slot_str_join PySem.F.type_str_join qr7 ty_S ho ha (qbl hc) h3 hl h1 h2
   | index=>exact qxx PySem.F.plainAttrs_list PySem.F.slot_list_index PySem.F.type_list_index qot qne ho ha (qbl hc) h3 hl h1 h2
theorem q3g {n:String} (h:tyn.contains n=true):bootBuiltins (n:Str)=some (.type n):=by
 have:n ∈ tyn:=by simpa using h
 simp only [tyn,List.mem_cons,List.not_mem_nil,or_false]at this
 rcases this with rfl | rfl | rfl | rfl | rfl | rfl
 · exact q2b
 · exact qyz
 · exact qy0
 · exact qkl
 · exact qrm
 · exact q2c
omit hcx in
theorem nb {p:Prop} (h:false=true):p:=nomatch h
omit hcx in
theorem an1 {a b:Bool} (h:(a && b)=true):a=true∧b=true:=Bool.and_eq_true_iff.mp h
omit hcx in
theorem an2 {a0 a1 a2:Bool} (h:(a0 && a1 && a2)=true):(a0=true∧a1=true)∧a2=true:=⟨an1 (an1 h).1,(an1 h).2⟩
omit hcx in
theorem an3 {a0 a1 a2 a3:Bool} (h:(a0 && a1 && a2 && a3)=true):((a0=true∧a1=true)∧a2=true)∧a3=true:=⟨an2 (an1 h).1,(an1 h).2⟩
omit hcx in
theorem an4 {a0 a1 a2 a3 a4:Bool} (h:(a0 && a1 && a2 && a3 && a4)=true):(((a0=true∧a1=true)∧a2=true)∧a3=true)∧a4=true:=⟨an3 (an1 h).1,(an1 h).2⟩
omit hcx in
theorem an5 {a0 a1 a2 a3 a4 a5:Bool} (h:(a0 && a1 && a2 && a3 && a4 && a5)=true):((((a0=true∧a1=true)∧a2=true)∧a3=true)∧a4=true)∧a5=true:=⟨an4 (an1 h).1,(an1 h).2⟩
omit hcx in
theorem an6 {a0 a1 a2 a3 a4 a5 a6:Bool} (h:(a0 && a1 && a2 && a3 && a4 && a5 && a6)=true):(((((a0=true∧a1=true)∧a2=true)∧a3=true)∧a4=true)∧a5=true)∧a6=true:=⟨an5 (an1 h).1,(an1 h).2⟩
omit hcx in
theorem an7 {a0 a1 a2 a3 a4 a5 a6 a7:Bool} (h:(a0 && a1 && a2 && a3 && a4 && a5 && a6 && a7)=true):((((((a0=true∧a1=true)∧a2=true)∧a3=true)∧a4=true)∧a5=true)∧a6=true)∧a7=true:=⟨an6 (an1 h).1,(an1 h).2⟩
omit hcx in
theorem an8 {a0 a1 a2 a3 a4 a5 a6 a7 a8:Bool} (h:(a0 && a1 && a2 && a3 && a4 && a5 && a6 && a7 && a8)=true):(((((((a0=true∧a1=true)∧a2=true)∧a3=true)∧a4=true)∧a5=true)∧a6=true)∧a7=true)∧a8=true:=⟨an7 (an1 h).1,(an1 h).2⟩
omit hcx in
theorem an9 {a0 a1 a2 a3 a4 a5 a6 a7 a8 a9:Bool} (h:(a0 && a1 && a2 && a3 && a4 && a5 && a6 && a7 && a8 && a9)=true):((((((((a0=true∧a1=true)∧a2=true)∧a3=true)∧a4=true)∧a5=true)∧a6=true)∧a7=true)∧a8=true)∧a9=true:=⟨an8 (an1 h).1,(an1 h).2⟩
omit hcx in
theorem q8i {a0 a1 a2 a3 a4 a5 a6 a7 a8 a9 a10:Bool} (h:(a0 && a1 && a2 && a3 && a4 && a5 && a6 && a7 && a8 && a9 && a10)=true):(((((((((a0=true∧a1=true)∧a2=true)∧a3=true)∧a4=true)∧a5=true)∧a6=true)∧a7=true)∧a8=true)∧a9=true)∧a10=true:=⟨an9 (an1 h).1,(an1 h).2⟩
omit hcx in
theorem an11 {a0 a1 a2 a3 a4 a5 a6 a7 a8 a9 a10 a11:Bool} (h:(a0 && a1 && a2 && a3 && a4 && a5 && a6 && a7 && a8 && a9 && a10 && a11)=true):((((((((((a0=true∧a1=true)∧a2=true)∧a3=true)∧a4=true)∧a5=true)∧a6=true)∧a7=true)∧a8=true)∧a9=true)∧a10=true)∧a11=true:=⟨q8i (an1 h).1,(an1 h).2⟩
omit hcx in
theorem an12 {a0 a1 a2 a3 a4 a5 a6 a7 a8 a9 a10 a11 a12:Bool} (h:(a0 && a1 && a2 && a3 && a4 && a5 && a6 && a7 && a8 && a9 && a10 && a11 && a12)=true):(((((((((((a0=true∧a1=true)∧a2=true)∧a3=true)∧a4=true)∧a5=true)∧a6=true)∧a7=true)∧a8=true)∧a9=true)∧a10=true)∧a11=true)∧a12=true:=⟨an11 (an1 h).1,(an1 h).2⟩
omit hcx in
theorem an13 {a0 a1 a2 a3 a4 a5 a6 a7 a8 a9 a10 a11 a12 a13:Bool} (h:(a0 && a1 && a2 && a3 && a4 && a5 && a6 && a7 && a8 && a9 && a10 && a11 && a12 && a13)=true):((((((((((((a0=true∧a1=true)∧a2=true)∧a3=true)∧a4=true)∧a5=true)∧a6=true)∧a7=true)∧a8=true)∧a9=true)∧a10=true)∧a11=true)∧a12=true)∧a13=true:=⟨an12 (an1 h).1,(an1 h).2⟩
omit hcx in
theorem an14 {a0 a1 a2 a3 a4 a5 a6 a7 a8 a9 a10 a11 a12 a13 a14:Bool} (h:(a0 && a1 && a2 && a3 && a4 && a5 && a6 && a7 && a8 && a9 && a10 && a11 && a12 && a13 && a14)=true):(((((((((((((a0=true∧a1=true)∧a2=true)∧a3=true)∧a4=true)∧a5=true)∧a6=true)∧a7=true)∧a8=true)∧a9=true)∧a10=true)∧a11=true)∧a12=true)∧a13=true)∧a14=true:=⟨an13 (an1 h).1,(an1 h).2⟩
omit hcx in
theorem an15 {a0 a1 a2 a3 a4 a5 a6 a7 a8 a9 a10 a11 a12 a13 a14 a15:Bool} (h:(a0 && a1 && a2 && a3 && a4 && a5 && a6 && a7 && a8 && a9 && a10 && a11 && a12 && a13 && a14 && a15)=true):((((((((((((((a0=true∧a1=true)∧a2=true)∧a3=true)∧a4=true)∧a5=true)∧a6=true)∧a7=true)∧a8=true)∧a9=true)∧a10=true)∧a11=true)∧a12=true)∧a13=true)∧a14=true)∧a15=true:=⟨an14 (an1 h).1,(an1 h).2⟩
omit hcx in
theorem an16 {a0 a1 a2 a3 a4 a5 a6 a7 a8 a9 a10 a11 a12 a13 a14 a15 a16:Bool} (h:(a0 && a1 && a2 && a3 && a4 && a5 && a6 && a7 && a8 && a9 && a10 && a11 && a12 && a13 && a14 && a15 && a16)=true):(((((((((((((((a0=true∧a1=true)∧a2=true)∧a3=true)∧a4=true)∧a5=true)∧a6=true)∧a7=true)∧a8=true)∧a9=true)∧a10=true)∧a11=true)∧a12=true)∧a13=true)∧a14=true)∧a15=true)∧a16=true:=⟨an15 (an1 h).1,(an1 h).2⟩
omit hcx in
theorem an17 {a0 a1 a2 a3 a4 a5 a6 a7 a8 a9 a10 a11 a12 a13 a14 a15 a16 a17:Bool} (h:(a0 && a1 && a2 && a3 && a4 && a5 && a6 && a7 && a8 && a9 && a10 && a11 && a12 && a13 && a14 && a15 && a16 && a17)=true):((((((((((((((((a0=true∧a1=true)∧a2=true)∧a3=true)∧a4=true)∧a5=true)∧a6=true)∧a7=true)∧a8=true)∧a9=true)∧a10=true)∧a11=true)∧a12=true)∧a13=true)∧a14=true)∧a15=true)∧a16=true)∧a17=true:=⟨an16 (an1 h).1,(an1 h).2⟩
omit hcx in
theorem emp {α:Type} {l:List α} (h:l.isEmpty=true):l=[]:=List.isEmpty_iff.mp h
omit hcx in
theorem emp1 {α:Type} {o:Option α} (h:o.isNone=true):o=none:=Option.isNone_iff_eq_none.mp h
omit hcx in
theorem sA0 {s:Sx}:∀ (c:CL),qir s c []=true→evA Φ s.fns c=fun _=>M.pure []
 | .nil,_=>by rw[evA]
 | .cons a r,h=>by exact nb h
include hcx
mutual
theorem sE:∀ (c:CE) {s:Sx} {X:Cx} {E':XK} {e:Expr},Gd CX Φ s X E'→qae s c e=true→PE X e (tD (xw E') (evE Φ s.fns c))
 | .var i,s,X,E',e,G,h=>by
   cases e <;> first | exact nb h | skip
   rw[evE];exact G.var h
 | .int i,s,X,E',e,G,h=>by
   cases e <;> first | exact nb h | skip
   rename_i k _ _
   cases k <;> first | exact nb h | skip
   cases dec h;rw[evE];exact qhk qkz fun _ _=>rfl
 | .str i,s,X,E',e,G,h=>by
   cases e <;> first | exact nb h | skip
   rename_i k _ _
   cases k <;> first | exact nb h | skip
   cases dec h;rw[evE];exact qhk q5a fun _ _=>rfl
 | .bl i,s,X,E',e,G,h=>by
   cases e <;> first | exact nb h | skip
   rename_i k _ _
   cases k <;> first | exact nb h | skip
   cases dec h;rw[evE];exact qhk q89 fun _ _=>rfl
 | .non,s,X,E',e,G,h=>by
   cases e <;> first | exact nb h | skip
   rename_i k _ _
   cases k <;> first | exact nb h | skip
   rw[evE];exact qhk q49 fun _ _=>rfl
 | .ty n,s,X,E',e,G,h=>by
   cases e <;> first | exact nb h | skip
   rename_i x p
   replace h:=an2 h
   obtain ⟨⟨hx,hb⟩,hn⟩:=h
   obtain ⟨g1,g2,g3,g4⟩:=G.bl hb
   cases dec hx
   rw[evE]
   exact qhk (q1p (v:=.ty n) g1 g4 (q3g hn) rfl g3 g2) fun _ _=>rfl
 | .bin new op a b,s,X,E',e,G,h=>by
   cases e <;> first | exact nb h | skip
   replace h:=an2 h
   cases dec h.1.1
   rw[evE]
   exact r_op (q6w _) (sE a G h.1.2) (sE b G h.2)
 | .neg a,s,X,E',e,G,h=>by
   cases e <;> first | exact nb h | skip
   rename_i o _ _
   cases o <;> first | exact nb h | skip
   rw[evE];exact qaal (sE a G h)
 | .cmp op a b,s,X,E',e,G,h=>by
   cases e <;> first | exact nb h | skip
   rename_i x os ys _
   rcases os with _ | ⟨o,_ | ⟨_,_⟩⟩ <;> first | exact nb h | skip
   rcases ys with _ | ⟨y,_ | ⟨_,_⟩⟩ <;> first | exact nb h | skip
   replace h:=an3 h
   cases dec h.1.1.1
   rw[evE]
   exact qaak (qig G.units _) (sE a G h.1.2) (sE b G h.2) (qlo h.1.1.2)
 | .chain o p a b c,s,X,E',e,G,h=>by
   cases e <;> first | exact nb h | skip
   rename_i x os ys _
   rcases os with _ | ⟨o',_ | ⟨p',_ | ⟨_,_⟩⟩⟩ <;> first | exact nb h | skip
   rcases ys with _ | ⟨y,_ | ⟨z,_ | ⟨_,_⟩⟩⟩ <;> first | exact nb h | skip
   replace h:=an5 h
   cases dec h.1.1.1.1.1
   cases dec h.1.1.1.1.2
   rw[evE]
   exact q2o (qig G.units _) (qig G.units _) (sE a G h.1.1.2) (sE b G h.1.2) (sE c G h.2) (qou h.1.1.1.2)
 | .and a b,s,X,E',e,G,h=>by
   cases e <;> first | exact nb h | skip
   rename_i o xs _
   cases o <;> first | exact nb h | skip
   rcases xs with _ | ⟨x,_ | ⟨y,r⟩⟩ <;> first | exact nb h | skip
   replace h:=an1 h
   rw[evE];exact qaao (sE a G h.1) (sE b G h.2)
 | .or a b,s,X,E',e,G,h=>by
   cases e <;> first | exact nb h | skip
   rename_i o xs _
   cases o <;> first | exact nb h | skip
   rcases xs with _ | ⟨x,_ | ⟨y,r⟩⟩ <;> first | exact nb h | skip
   replace h:=an1 h
   rw[evE];exact r_or (sE a G h.1) (sE b G h.2)
 | .one a,s,X,E',e,G,h=>by
   cases e <;> first | exact nb h | skip
   rename_i op xs p
   rcases xs with _ | ⟨x,_ | ⟨_,_⟩⟩ <;> first | exact nb h | skip
   rw[evE];exact qaan (sE a G h)
 | .not a,s,X,E',e,G,h=>by
   cases e <;> first | exact nb h | skip
   rename_i o _ _
   cases o <;> first | exact nb h | skip
   rw[evE];exact qaap (sE a G h)
 | .ife c a b,s,X,E',e,G,h=>by
   cases e <;> first | exact nb h | skip
   replace h:=an2 h
   rw[evE];exact qaaq (sB c G h.1.1) (sE a G h.1.2) (sE b G h.2)
 | .tup as,s,X,E',e,G,h=>by
   cases e <;> first | exact nb h | skip
   rw[evE];exact qaas (sA as G h)
 | .lst new as,s,X,E',e,G,h=>by
   cases e <;> first | exact nb h | skip
   rw[evE];exact qaat (sA as G h)
 | .dnil new,s,X,E',e,G,h=>by
   cases e <;> first | exact nb h | skip
   rename_i ks vs _
   cases ks <;> first | exact nb h | skip
   cases vs <;> first | exact nb h | skip
   rw[evE];exact q7a
 | .ix a i,s,X,E',e,G,h=>by
   cases e <;> first | exact nb h | skip
   replace h:=an2 h
   rw[evE];exact r_ix (qaau G.units1) (sE a G h.1.2) (sE i G h.2) (qzv h.1.1)
 | .sl new a lo hi,s,X,E',e,G,h=>by
   cases e <;> first | exact nb h | skip
   rename_i _ y _
   cases y <;> first | exact nb h | skip
   rename_i st _
   cases st <;> first | exact nb h | skip
   replace h:=an2 h
   rw[evE];exact r_sl (sE a G h.1.1) (sO lo G h.1.2) (sO hi G h.2)
 | .call j as,s,X,E',e,G,h=>by
   cases e <;> first | exact nb h | skip
   rename_i fn es ks q
   cases fn <;> first | exact nb h | skip
   cases ks <;> first | exact nb h | skip
   rename_i x p
   replace h:=an3 h
   obtain ⟨⟨⟨hg,hf⟩,hst⟩,ha⟩:=h
   obtain ⟨g1,g2,g3⟩:=G.gl hg
   split at hf
   · rename_i y n k hj
     simp only [Bool.and_eq_true]at hf
     obtain ⟨⟨h1,h2⟩,h3⟩:=hf
     cases dec h1
     obtain ⟨F,hF,FT⟩:=G.fns j x n k hj
     rw[evE]
     have hA:=sA as G ha
     have e1:qg Φ s.fns j=qv n F:=by funext ds;unfold qg;rw[hF,hj]
     rw[e1]
     cases es with
     | nil =>
       have h2:n=0:=dec h2
       subst h2
       refine PE.mono (q23 FT G.room (dec h3) g1 G.pass g2) fun σ H Q ⟨w,Γ,S,rel,hold,z⟩=>⟨w,Γ,S,rel,hold,?_⟩
       have:evA Φ s.fns as=fun _=>M.pure []:=sA0 as ha
       rw[this]at z
       exact z
     | cons e es =>
       have hst':=hst
       rw[List.all_cons,Bool.and_eq_true]at hst'
       exact q73 FT G.room (dec h3) g1 G.pass hA g2 (qan hst'.1) (qln hst'.2)
   · cases hf
 | .bi b as,s,X,E',e,G,h=>by
   cases e <;> first | exact nb h | skip
   rename_i fn es ks q
   cases fn <;> first | exact nb h | skip
   cases ks <;> first | exact nb h | skip
   rename_i x p
   replace h:=an4 h
   obtain ⟨⟨⟨⟨h1,h2⟩,h3⟩,h4⟩,h5⟩:=h
   rw[evE]
   cases es with
   | nil=>cases h3
   | cons e es=>exact qabg G b h1 (dec h2) h4 (sA as G h5)
 | .mt m o as,s,X,E',e,G,h=>by
   cases e <;> first | exact nb h | skip
   rename_i fn es ks q
   cases fn <;> first | exact nb h | skip
   cases ks <;> first | exact nb h | skip
   replace h:=an6 h
   obtain ⟨⟨⟨⟨⟨⟨h1,h2⟩,h3⟩,h4⟩,h5⟩,h6⟩,h7⟩:=h
   rw[evE]
   exact qabh G m (dec h1) h2 h3 h4 (dec h5) (sE o G h6) (sA as G h7) fun z=>by subst z;exact sA0 as h7
 | .lc new n t i c el,s,X,E',e,G,h=>by
   cases e <;> first | exact nb h | skip
   rename_i x gs scope p
   rcases gs with _ | ⟨g,_ | ⟨_,_⟩⟩ <;> first | exact nb h | skip
   replace h:=an9 h
   obtain ⟨⟨⟨⟨⟨⟨⟨⟨⟨h1,h2⟩,h3⟩,h4⟩,h5⟩,h6⟩,h7⟩,h8⟩,h9⟩,h10⟩:=h
   obtain ⟨tg,it,ifs,asy⟩:=g
   dsimp only at h1 h2 h3 h4 h5 h8 h9 h10
   cases dec h1
   have hn:=dec h10
   subst hn
   rw[evE]
   generalize qiq s.N tg=Mk at *
   generalize qai tg=ts at *
   exact r_lc (E2:=xw E0) (qfy G.hN G.hsc h2) G.calm (sI i G h4) (fun C fp s₀ H₀=>sG (s:=s.inner ts Mk scope) t (G.inner hcx h2 C fp s₀ H₀) h5) (fun C fp s₀ H₀=>sF (s:=s.inner ts Mk scope) c (G.inner hcx h2 C fp s₀ H₀) h8) (fun C fp s₀ H₀=>sE (s:=s.inner ts Mk scope) el (G.inner hcx h2 C fp s₀ H₀) h9) (qcc h3)
     (fun k hk=>dec (List.all_eq_true.mp h6 k hk)) (qgm t h7)
 | .dc new n t i c k el,s,X,E',e,G,h=>by
   cases e <;> first | exact nb h | skip
   rename_i y x gs scope p
   rcases gs with _ | ⟨g,_ | ⟨_,_⟩⟩ <;> first | exact nb h | skip
   replace h:=q8i h
   obtain ⟨⟨⟨⟨⟨⟨⟨⟨⟨⟨h1,h2⟩,h3⟩,h4⟩,h5⟩,h6⟩,h7⟩,h8⟩,h9⟩,h9'⟩,h10⟩:=h
   obtain ⟨tg,it,ifs,asy⟩:=g
   dsimp only at h1 h2 h3 h4 h5 h8 h9 h9' h10
   cases dec h1
   have hn:=dec h10
   subst hn
   rw[evE]
   generalize qiq s.N tg=Mk at *
   generalize qai tg=ts at *
   exact r_dc (E2:=xw E0) (qfy G.hN G.hsc h2) G.calm (sI i G h4) (fun C fp s₀ H₀=>sG (s:=s.inner ts Mk scope) t (G.inner hcx h2 C fp s₀ H₀) h5) (fun C fp s₀ H₀=>sF (s:=s.inner ts Mk scope) c (G.inner hcx h2 C fp s₀ H₀) h8) (fun C fp s₀ H₀=>sE (s:=s.inner ts Mk scope) k (G.inner hcx h2 C fp s₀ H₀) h9) (fun C fp s₀ H₀=>sE (s:=s.inner ts Mk scope) el (G.inner hcx h2 C fp s₀ H₀) h9') (qcc h3)
     (fun k hk=>dec (List.all_eq_true.mp h6 k hk)) (qgm t h7)
 | .frz a,s,X,E',e,G,h=>by
   rw[evE];exact qaba (sE a G h)
 | .lset a,s,X,E',e,G,h=>by
   cases e <;> first | exact nb h | skip
   rename_i fn es ks q
   cases fn <;> first | exact nb h | skip
   rcases es with _ | ⟨e,_ | ⟨_,_⟩⟩ <;> first | exact nb h | skip
   cases ks <;> first | exact nb h | skip
   cases e <;> first | exact nb h | skip
   rename_i fn2 es2 ks2 q2
   cases fn2 <;> first | exact nb h | skip
   rcases es2 with _ | ⟨z,_ | ⟨_,_⟩⟩ <;> first | exact nb h | skip
   cases ks2 <;> first | exact nb h | skip
   replace h:=an5 h
   obtain ⟨⟨⟨⟨⟨h1,h2⟩,h3⟩,h4⟩,h5⟩,h6⟩:=h
   cases dec h1
   cases dec h2
   obtain ⟨g1,_,_,g4⟩:=G.bl h3
   obtain ⟨k1,_,_,k4⟩:=G.bl h4
   rw[evE]
   exact qz2 G.calm g1 g4 k1 k4 (sE a G h6) (qan h5)
 | .lc2 n n2 t i t2 i2 c el,s,X,E',e,G,h=>by
   cases e <;> first | exact nb h | skip
   rename_i x gs scope p
   rcases gs with _ | ⟨g,_ | ⟨g2,_ | ⟨_,_⟩⟩⟩ <;> first | exact nb h | skip
   replace h:=an17 h
   obtain ⟨⟨⟨⟨⟨⟨⟨⟨⟨⟨⟨⟨⟨⟨⟨⟨⟨h1,h2⟩,h3⟩,h4⟩,h5⟩,h6⟩,h7⟩,h8⟩,h9⟩,h10⟩,h11⟩,h12⟩,h13⟩,h14⟩,h15⟩,h16⟩,h17⟩,h18⟩:=h
   obtain ⟨tg,it,ifs,asy⟩:=g
   obtain ⟨tg2,it2,ifs2,asy2⟩:=g2
   dsimp only at h1 h2 h3 h4 h5 h6 h7 h8 h11 h12 h15 h16 h17
   cases dec h1
   cases dec h2
   have h3:=emp h3
   subst h3
   have hn:=dec h17
   subst hn
   rw[evE]
   generalize mkN s.N (qai tg2++qai tg)=Mk at *
   generalize qai tg2++qai tg=ts at *
   exact qaa9 (E2:=xw E0) (dec h18) (qfy G.hN G.hsc h4) G.calm (sI i G h7) (fun C fp s₀ H₀=>sG (s:=s.inner ts Mk scope) t (G.inner hcx h4 C fp s₀ H₀) h8) (fun C fp s₀ H₀=>sI (s:=s.inner ts Mk scope) i2 (G.inner hcx h4 C fp s₀ H₀) h11) (fun C fp s₀ H₀=>sG (s:=s.inner ts Mk scope) t2 (G.inner hcx h4 C fp s₀ H₀) h12) (fun C fp s₀ H₀=>sF (s:=s.inner ts Mk scope) c (G.inner hcx h4 C fp s₀ H₀) h15) (fun C fp s₀ H₀=>sE (s:=s.inner ts Mk scope) el (G.inner hcx h4 C fp s₀ H₀) h16) (qcc h5) (fun env=>qcc h6)
     (fun k hk=>dec (List.all_eq_true.mp h9 k hk)) (qgm t h10) (fun k hk=>dec (List.all_eq_true.mp h13 k hk)) (qgm t2 h14)
theorem sB:∀ (c:CB) {s:Sx} {X:Cx} {E':XK} {e:Expr},Gd CX Φ s X E'→qj8 s c e=true→PT X e (tB (xw E') (evB Φ s.fns c))
 | .cmp op a b,s,X,E',e,G,h=>by
   cases e <;> first | exact nb h | skip
   rename_i x os ys _
   rcases os with _ | ⟨o,_ | ⟨_,_⟩⟩ <;> first | exact nb h | skip
   rcases ys with _ | ⟨y,_ | ⟨_,_⟩⟩ <;> first | exact nb h | skip
   replace h:=an3 h
   cases dec h.1.1.1
   rw[evB]
   exact q62 (qig G.units _) (sE a G h.1.2) (sE b G h.2) (qlo h.1.1.2)
 | .chain o p a b c,s,X,E',e,G,h=>by
   cases e <;> first | exact nb h | skip
   rename_i x os ys _
   rcases os with _ | ⟨o',_ | ⟨p',_ | ⟨_,_⟩⟩⟩ <;> first | exact nb h | skip
   rcases ys with _ | ⟨y,_ | ⟨z,_ | ⟨_,_⟩⟩⟩ <;> first | exact nb h | skip
   replace h:=an5 h
   cases dec h.1.1.1.1.1
   cases dec h.1.1.1.1.2
   rw[evB]
   exact qzl (qig G.units _) (qig G.units _) (sE a G h.1.1.2) (sE b G h.1.2) (sE c G h.2) (qou h.1.1.1.2)
 | .and a b,s,X,E',e,G,h=>by
   cases e <;> first | exact nb h | skip
   rename_i o xs _
   cases o <;> first | exact nb h | skip
   rcases xs with _ | ⟨x,_ | ⟨y,r⟩⟩ <;> first | exact nb h | skip
   replace h:=an1 h
   rw[evB];exact(qzn (sB a G h.1) (sW b G h.2)).pt
 | .or a b,s,X,E',e,G,h=>by
   cases e <;> first | exact nb h | skip
   rename_i o xs _
   cases o <;> first | exact nb h | skip
   rcases xs with _ | ⟨x,_ | ⟨y,r⟩⟩ <;> first | exact nb h | skip
   replace h:=an1 h
   rw[evB];exact(q4o (sB a G h.1) (sW b G h.2)).pt
 | .one a,s,X,E',e,G,h=>by
   cases e <;> first | exact nb h | skip
   rename_i op xs p
   rcases xs with _ | ⟨x,_ | ⟨_,_⟩⟩ <;> first | exact nb h | skip
   rw[evB]
   cases op with
   | And=>exact(qzm (sB a G h)).pt
   | Or=>exact(q4n (sB a G h)).pt
 | .not a,s,X,E',e,G,h=>by
   cases e <;> first | exact nb h | skip
   rename_i o _ _
   cases o <;> first | exact nb h | skip
   rw[evB];exact q66 (sB a G h)
 | .tru a,s,X,E',e,G,h=>by
   replace h:=an1 h
   rw[evB];exact qaam (sE a G h.2) (q24 h.1)
theorem sW:∀ (c:CB) {s:Sx} {X:Cx} {E':XK} {op:BoolOp} {es:List Expr} {p:Pos},Gd CX Φ s X E'→qj8 s c (.BoolOp op es p)=true→PW X (.BoolOp op es p) (tB (xw E') (evB Φ s.fns c))
 | .cmp _ a b,s,X,E',op,es,p,G,h=>by exact nb h
 | .chain _ _ a b c,s,X,E',op,es,p,G,h=>by exact nb h
 | .and a b,s,X,E',op,es,p,G,h=>by
   cases op <;> first | exact nb h | skip
   rcases es with _ | ⟨x,_ | ⟨y,r⟩⟩ <;> first | exact nb h | skip
   replace h:=an1 h
   rw[evB];exact qzn (sB a G h.1) (sW b G h.2)
 | .or a b,s,X,E',op,es,p,G,h=>by
   cases op <;> first | exact nb h | skip
   rcases es with _ | ⟨x,_ | ⟨y,r⟩⟩ <;> first | exact nb h | skip
   replace h:=an1 h
   rw[evB];exact q4o (sB a G h.1) (sW b G h.2)
 | .one a,s,X,E',op,es,p,G,h=>by
   rcases es with _ | ⟨x,_ | ⟨_,_⟩⟩ <;> first | exact nb h | skip
   rw[evB]
   cases op with
   | And=>exact qzm (sB a G h)
   | Or=>exact q4n (sB a G h)
 | .not a,s,X,E',op,es,p,G,h=>by exact nb h
 | .tru a,s,X,E',op,es,p,G,h=>by
   replace h:=an1 h
   cases h.1
theorem sF:∀ (c:CF) {s:Sx} {X:Cx} {E':XK} {es:List Expr},Gd CX Φ s X E'→q3f s c es=true→PF X es (tB (xw E') (evF Φ s.fns c))
 | .yes,s,X,E',es,G,h=>by
   have:es=[]:=emp h
   subst this
   rw[evF];exact q4r
 | .if_ a,s,X,E',es,G,h=>by
   rcases es with _ | ⟨x,_ | ⟨_,_⟩⟩ <;> first | exact nb h | skip
   rw[evF];exact qaa8 (sB a G h)
theorem sA:∀ (c:CL) {s:Sx} {X:Cx} {E':XK} {es:List Expr},Gd CX Φ s X E'→qir s c es=true→PA X es (tL (xw E') (evA Φ s.fns c))
 | .nil,s,X,E',es,G,h=>by
   have:es=[]:=emp h
   subst this
   rw[evA];exact qaar
 | .cons a r,s,X,E',es,G,h=>by
   rcases es with _ | ⟨x,xs⟩ <;> first | exact nb h | skip
   replace h:=an2 h
   rw[evA];exact q69 (sE a G h.1.2) (sA r G h.2) (qan h.1.1)
theorem sO:∀ (c:CO) {s:Sx} {X:Cx} {E':XK} {o:Option Expr},Gd CX Φ s X E'→q8f s c o=true→PO X o (tO (xw E') (evO Φ s.fns c))
 | .no,s,X,E',o,G,h=>by
   have:o=none:=emp1 h
   subst this
   rw[evO];exact q2s
 | .at_ a,s,X,E',o,G,h=>by
   cases o <;> first | exact nb h | skip
   rw[evO];exact q2t (sE a G h)
theorem sI:∀ (c:CI) {s:Sx} {X:Cx} {E':XK} {t e:Expr},Gd CX Φ s X E'→qx4 s c t e=true→PI X t e (tI (xw E') (evI Φ s.fns c))
 | .seq a,s,X,E',t,e,G,h=>by
   rw[evI];exact qaa4 (sE a G h)
 | .keys a,s,X,E',t,e,G,h=>by
   rw[evI];exact q8a (sE a G h)
 | .rng1 as,s,X,E',t,e,G,h=>by
   cases e <;> first | exact nb h | skip
   rename_i fn es ks q
   cases fn <;> first | exact nb h | skip
   rcases es with _ | ⟨y,_ | ⟨_,_⟩⟩ <;> first | exact nb h | skip
   cases ks <;> first | exact nb h | skip
   replace h:=an3 h
   obtain ⟨⟨⟨h1,h2⟩,h3⟩,h4⟩:=h
   obtain ⟨g1,g2,g3,g4⟩:=G.bl h2
   cases dec h1
   rw[evI];exact q7w g1 g4 (sA as G h4) (qan h3)
 | .rng2 as,s,X,E',t,e,G,h=>by
   cases e <;> first | exact nb h | skip
   rename_i fn es ks q
   cases fn <;> first | exact nb h | skip
   rcases es with _ | ⟨y,_ | ⟨z,_ | ⟨_,_⟩⟩⟩ <;> first | exact nb h | skip
   cases ks <;> first | exact nb h | skip
   replace h:=an4 h
   obtain ⟨⟨⟨⟨h1,h2⟩,h3⟩,h3'⟩,h4⟩:=h
   obtain ⟨g1,g2,g3,g4⟩:=G.bl h2
   cases dec h1
   rw[evI];exact q7x g1 g4 (sA as G h4) (by rw[qan h3,qan h3'];rfl) (qan h3')
 | .enum as,s,X,E',t,e,G,h=>by
   cases e <;> first | exact nb h | skip
   rename_i fn es ks q
   cases fn <;> first | exact nb h | skip
   rcases es with _ | ⟨y,_ | ⟨_,_⟩⟩ <;> first | exact nb h | skip
   cases ks <;> first | exact nb h | skip
   replace h:=an4 h
   obtain ⟨⟨⟨⟨h0,h1⟩,h2⟩,h3⟩,h4⟩:=h
   obtain ⟨g1,g2,g3,g4⟩:=G.bl h2
   cases dec h1
   rw[evI]
   cases t <;> first | (cases h0;done) | exact q7y g1 g4 (sA as G h4) (qan h3)
 | .zip as,s,X,E',t,e,G,h=>by
   cases e <;> first | exact nb h | skip
   rename_i fn es ks q
   cases fn <;> first | exact nb h | skip
   rcases es with _ | ⟨y,_ | ⟨z,_ | ⟨_,_⟩⟩⟩ <;> first | exact nb h | skip
   cases ks <;> first | exact nb h | skip
   replace h:=an5 h
   obtain ⟨⟨⟨⟨⟨h0,h1⟩,h2⟩,h3⟩,h3'⟩,h4⟩:=h
   obtain ⟨g1,g2,g3,g4⟩:=G.bl h2
   cases dec h1
   rw[evI]
   cases t <;> first | (cases h0;done) | exact qaa5 g1 g4 (sA as G h4) (by rw[qan h3,qan h3'];rfl) (qan h3')
theorem sG:∀ (c:CG) {s:Sx} {X:Cx} {E':XK} {e:Expr},Gd CX Φ s X E'→qsf s c e=true→PG X e (tG (xw E') (tgs c) (evG Φ s.fns c))
 | .nm i,s,X,E',e,G,h=>by
   cases e <;> first | exact nb h | skip
   obtain ⟨a,b,c⟩:=G.lc h
   rw[evG,tgs];exact q7r (by rw[G.hN];exact G.nd) a b c
 | .tg ts,s,X,E',e,G,h=>by
   cases e <;> first | exact nb h | skip
   replace h:=an2 h
   rw[evG,tgs];exact qaay G.calm (sT ts G h.2) (by rw[qov];exact dec h.1.2) (qsa h.1.1)
 | .sub o i,s,X,E',e,G,h=>by
   cases e <;> first | exact nb h | skip
   replace h:=an2 h
   rw[evG,tgs];exact qaa2 G.units1 (sE o G h.1.2) (sE i G h.2) (q25 h.1.1)
theorem sT:∀ (c:CT) {s:Sx} {X:Cx} {E':XK} {es:List Expr},Gd CX Φ s X E'→q8g s c es=true→PGs X es (tGs (xw E') (qz4 c) (evT Φ s.fns c))
 | .nil,s,X,E',es,G,h=>by
   have:es=[]:=emp h
   subst this
   rw[evT,qz4];exact qaax
 | .cons a r,s,X,E',es,G,h=>by
   rcases es with _ | ⟨x,xs⟩ <;> first | exact nb h | skip
   replace h:=an2 h
   rw[evT,qz4];exact q7s (sG a G h.1.2) (sT r G h.2) (by rw[qim h.1.1];rfl)
end
end
noncomputable def isLc:CE→Bool
 | .lc _ _ _ _ _ _=>true
 | _=>false
noncomputable def q4s:CE→Bool
 | .dc _ _ _ _ _ _ _=>true
 | _=>false
noncomputable def swOk (s:Sx) (e:CE) (v:Expr) (x:Str) (p:Pos):Bool:=match v with
 | .ListComp _ _ scope q=>isLc e || !swB s.sc scope q.line p.line x
 | .DictComp _ _ _ scope q=>q4s e || !swB s.sc scope q.line p.line x
 | _=>qf1 v
mutual
noncomputable def chkS (s:Sx):CS→Stmt→Bool
 | .pass,st=>match st with
   | .Pass _=>true
   | _=>false
 | .ex a,st=>match st with
   | .Expr e _=>qf1 e && qae s a e
   | _=>false
 | .ret a,st=>match st with
   | .Return (some e) _=>qae s a e
   | _=>false
 | .retN,st=>match st with
   | .Return none _=>true
   | _=>false
 | .sif c a b,st=>match st with
   | .If z x y _=>qj8 s c z && qlt s a x && qlt s b y
   | _=>false
 | .asg t e,st=>match st with
   | .Assign [g] v _=>notStar g && qf1 v && (qpw g || qpw v) && qsf s t g && qae s e v
   | _=>false
 | .set i e,st=>match st with
   | .Assign [.Name x p] v _=>qls s i x && swOk s e v x p && qae s e v
   | _=>false
 | .par i j as,st=>match st with
   | .Assign [.Tuple [.Name x px,.Name y py] _ _] (.Tuple [a,b] _ _) _=>decide (s.N[i]? =some x) && decide (s.N[j]? =some y) && decide (i ≠ j) && q26 s.sc x y px py a b && qir s as [a,b]
   | _=>false
 | .aug op i e,st=>match st with
   | .AugAssign (.Name x _) o v _=>decide (op=o) && qls s i x && qae s e v
   | _=>false
 | .augIx op o i e,st=>match st with
   | .AugAssign (.Subscript x y _) q v _=>decide (op=q) && qd4 y && qae s o x && qae s i y && qae s e v
   | _=>false
 | .sfor t i b,st=>match st with
   | .For g it x [] _=>qcr it && qx4 s i g it && qsf s t g && qlt s b x
   | _=>false
 | .swhile c b,st=>match st with
   | .While z x [] _=>qj8 s c z && qlt s b x
   | _=>false
 | .brk,st=>match st with
   | .Break _=>true
   | _=>false
 | .cont,st=>match st with
   | .Continue _=>true
   | _=>false
noncomputable def qlt (s:Sx):CSL→List Stmt→Bool
 | .nil,ss=>ss.isEmpty
 | .cons a r,ss=>match ss with
   | x::xs=>chkS s a x && qlt s r xs
   | []=>false
 | .gh _ r,ss=>qlt s r ss
end
section
variable {CX:CXT} {Φ:List Fd} (hcx:qp1 CX)
include hcx
theorem q8j {s:Sx} {X:Cx} {E':XK} {i:Nat} {e:CE} {x:Str} {p q:Pos} {v:Expr} (G:Gd CX Φ s X E') (h1:qls s i x=true) (h2:swOk s e v x p=true) (h3:qae s e v=true):PS X (.Assign [.Name x p] v q) (tS (xw E') fun Γ=>M.bind (evE Φ s.fns e Γ) fun d=>M.pure (.nx,Γ.set i (some d))):=by
 obtain ⟨a,b,c⟩:=G.lc h1
 have nd:X.N.Nodup:=by rw[G.hN];exact G.nd
 have other:qf1 v=true→PS X (.Assign [.Name x p] v q) (tS (xw E') fun Γ=>M.bind (evE Φ s.fns e Γ) fun d=>M.pure (.nx,Γ.set i (some d))):=fun h2=>qzq nd a b (sE hcx e G h3) (qlp h2) c
 cases v <;> first | exact other h2 | skip
 case ListComp el gens scope pos =>
   replace h2:=Bool.or_eq_true_iff.mp h2
   by_cases hw:swB s.sc scope pos.line p.line x=true
   · have hl:isLc e=true:=by
       rcases h2 with z | z
       · exact z
       · rw[hw]at z;cases z
     cases e <;> first | (cases hl;done) | skip
     rename_i new n t i' cf ce
     rcases gens with _ | ⟨g,_ | ⟨_,_⟩⟩ <;> first | exact nb h3 | skip
     · replace h3:=an9 h3
       obtain ⟨⟨⟨⟨⟨⟨⟨⟨⟨k1,k2⟩,k3⟩,k4⟩,k5⟩,k6⟩,k7⟩,k8⟩,k9⟩,k10⟩:=h3
       obtain ⟨tg,it,ifs,asy⟩:=g
       dsimp only at k1 k2 k3 k4 k5 k8 k9 k10
       cases dec k1
       have hn:=dec k10
       subst hn
       rw[evE]
       generalize qiq s.N tg=Mk at *
       generalize qai tg=ts at *
       exact q22 (E2:=xw E0) nd a b (qfy G.hN G.hsc k2) G.calm (sI hcx i' G k4) (fun C fp s₀ H₀=>sG (s:=s.inner ts Mk scope) hcx t (G.inner hcx k2 C fp s₀ H₀) k5) (fun C fp s₀ H₀=>sF (s:=s.inner ts Mk scope) hcx cf (G.inner hcx k2 C fp s₀ H₀) k8)
         (fun C fp s₀ H₀=>sE (s:=s.inner ts Mk scope) hcx ce (G.inner hcx k2 C fp s₀ H₀) k9) (qcc k3) (by rw[qzw,G.hsc,hw]) c (fun k hk=>dec (List.all_eq_true.mp k6 k hk)) (qgm t k7)
   · exact qzq nd a b (sE hcx e G h3) (by rw[qzw,G.hsc];simp only [Bool.not_eq_true]at hw;rw[hw]) c
 case DictComp kx el gens scope pos =>
   replace h2:=Bool.or_eq_true_iff.mp h2
   by_cases hw:swB s.sc scope pos.line p.line x=true
   · have hl:q4s e=true:=by
       rcases h2 with z | z
       · exact z
       · rw[hw]at z;cases z
     cases e <;> first | (cases hl;done) | skip
     rename_i new n t i' cf ck ce
     rcases gens with _ | ⟨g,_ | ⟨_,_⟩⟩ <;> first | exact nb h3 | skip
     · replace h3:=q8i h3
       obtain ⟨⟨⟨⟨⟨⟨⟨⟨⟨⟨k1,k2⟩,k3⟩,k4⟩,k5⟩,k6⟩,k7⟩,k8⟩,k9⟩,k9'⟩,k10⟩:=h3
       obtain ⟨tg,it,ifs,asy⟩:=g
       dsimp only at k1 k2 k3 k4 k5 k8 k9 k9' k10
       cases dec k1
       have hn:=dec k10
       subst hn
       rw[evE]
       generalize qiq s.N tg=Mk at *
       generalize qai tg=ts at *
       exact q3a (E2:=xw E0) nd a b (qfy G.hN G.hsc k2) G.calm (sI hcx i' G k4) (fun C fp s₀ H₀=>sG (s:=s.inner ts Mk scope) hcx t (G.inner hcx k2 C fp s₀ H₀) k5) (fun C fp s₀ H₀=>sF (s:=s.inner ts Mk scope) hcx cf (G.inner hcx k2 C fp s₀ H₀) k8)
         (fun C fp s₀ H₀=>sE (s:=s.inner ts Mk scope) hcx ck (G.inner hcx k2 C fp s₀ H₀) k9) (fun C fp s₀ H₀=>sE (s:=s.inner ts Mk scope) hcx ce (G.inner hcx k2 C fp s₀ H₀) k9') (qcc k3) (by rw[qv6,G.hsc,hw]) c (fun k hk=>dec (List.all_eq_true.mp k6 k hk)) (qgm t k7)
   · exact qzq nd a b (sE hcx e G h3) (by rw[qv6,G.hsc];simp only [Bool.not_eq_true]at hw;rw[hw]) c
mutual
theorem sS:∀ (c:CS) {s:Sx} {X:Cx} {E':XK} {st:Stmt},Gd CX Φ s X E'→chkS s c st=true→PS X st (tS (xw E') (evS Φ s.fns c))
 | .pass,s,X,E',st,G,h=>by
   cases st <;> first | exact nb h | skip
   rw[evS];exact q7m
 | .ex a,s,X,E',st,G,h=>by
   cases st <;> first | exact nb h | skip
   replace h:=an1 h
   rw[evS];exact q7o (sE hcx a G h.2) (qlp h.1)
 | .ret a,s,X,E',st,G,h=>by
   cases st <;> first | exact nb h | skip
   rename_i o _
   cases o <;> first | exact nb h | skip
   rw[evS];exact qaaw (sE hcx a G h)
 | .retN,s,X,E',st,G,h=>by
   cases st <;> first | exact nb h | skip
   rename_i o _
   cases o <;> first | exact nb h | skip
   rw[evS];exact q7p
 | .sif c a b,s,X,E',st,G,h=>by
   cases st <;> first | exact nb h | skip
   replace h:=an2 h
   rw[evS];exact s_if (sB hcx c G h.1.1) (sL a G h.1.2) (sL b G h.2)
 | .asg t e,s,X,E',st,G,h=>by
   cases st <;> first | exact nb h | skip
   rename_i gs v _
   rcases gs with _ | ⟨g,_ | ⟨_,_⟩⟩ <;> first | exact nb h | skip
   replace h:=an4 h
   obtain ⟨⟨⟨⟨h1,h2⟩,h3⟩,h4⟩,h5⟩:=h
   rw[evS];exact qaaz (sE hcx e G h5) (sG hcx t G h4) (qv5 h2) (qxy h3) (by rw[qim h1];rfl)
 | .set i e,s,X,E',st,G,h=>by
   cases st <;> first | exact nb h | skip
   rename_i gs v _
   rcases gs with _ | ⟨g,tl⟩ <;> first | exact nb h | skip
   cases g <;> first | exact nb h | skip
   cases tl <;> first | exact nb h | skip
   replace h:=an2 h
   rw[evS];exact q8j hcx G h.1.1 h.1.2 h.2
 | .par i j as,s,X,E',st,G,h=>by
   cases st <;> first | exact nb h | skip
   rename_i gs v _
   rcases gs with _ | ⟨g,tl⟩ <;> first | exact nb h | skip
   cases g <;> first | exact nb h | skip
   rename_i ts _ _
   rcases ts with _ | ⟨g1,ts⟩ <;> first | exact nb h | skip
   cases g1 <;> first | exact nb h | skip
   rcases ts with _ | ⟨g2,ts⟩ <;> first | exact nb h | skip
   cases g2 <;> first | exact nb h | skip
   cases ts <;> first | exact nb h | skip
   cases tl <;> first | exact nb h | skip
   cases v <;> first | exact nb h | skip
   rename_i vs _ _
   rcases vs with _ | ⟨a,_ | ⟨b,_ | ⟨_,_⟩⟩⟩ <;> first | exact nb h | skip
   replace h:=an4 h
   obtain ⟨⟨⟨⟨h1,h2⟩,h3⟩,h4⟩,h5⟩:=h
   have h4':=h4
   unfold q26 at h4'
   simp only [Bool.and_eq_true,Bool.not_eq_true',beq_iff_eq]at h4'
   rw[evS]
   exact qaa1 G.calm (by rw[G.hN];exact G.nd) (by rw[G.hN];exact dec h1) (by rw[G.hN];exact dec h2) (dec h3) (by rw[G.hsc];exact h4'.1.1.1.1.1.2) (by rw[G.hsc];exact h4'.1.1.1.1.2) (sA hcx as G h5) (q27 (by rw[G.hsc];exact h4)) (qv5 rfl)
 | .aug op i e,s,X,E',st,G,h=>by
   cases st <;> first | exact nb h | skip
   rename_i g o v _
   cases g <;> first | exact nb h | skip
   replace h:=an2 h
   cases dec h.1.1
   obtain ⟨a,b,c⟩:=G.lc h.1.2
   rw[evS];exact qaa3 (by rw[G.hN];exact G.nd) a b (sE hcx e G h.2) c
 | .augIx op o i e,s,X,E',st,G,h=>by
   cases st <;> first | exact nb h | skip
   rename_i g o v _
   cases g <;> first | exact nb h | skip
   replace h:=an4 h
   obtain ⟨⟨⟨⟨h1,h2⟩,h3⟩,h4⟩,h5⟩:=h
   cases dec h1
   rw[evS];exact q2z G.units1 (sE hcx o G h3) (sE hcx i G h4) (sE hcx e G h5) (q78 h2)
 | .sfor t i b,s,X,E',st,G,h=>by
   cases st <;> first | exact nb h | skip
   rename_i g it b' els _
   cases els <;> first | exact nb h | skip
   replace h:=an3 h
   obtain ⟨⟨⟨h1,h2⟩,h3⟩,h4⟩:=h
   rw[evS];exact qaa6 G.own G.calm (sI hcx i G h2) (sG hcx t G h3) (sL b G h4) (qcc h1)
 | .swhile c b,s,X,E',st,G,h=>by
   cases st <;> first | exact nb h | skip
   rename_i z b' els _
   cases els <;> first | exact nb h | skip
   replace h:=an1 h
   rw[evS];exact q21 G.own (sB hcx c G h.1) (sL b G h.2)
 | .brk,s,X,E',st,G,h=>by
   cases st <;> first | exact nb h | skip
   rw[evS];exact q2v
 | .cont,s,X,E',st,G,h=>by
   cases st <;> first | exact nb h | skip
   rw[evS];exact q7n
theorem sL:∀ (c:CSL) {s:Sx} {X:Cx} {E':XK} {ss:List Stmt},Gd CX Φ s X E'→qlt s c ss=true→PSs X ss (tS (xw E') (qw Φ s.fns c))
 | .nil,s,X,E',ss,G,h=>by
   have:ss=[]:=emp h
   subst this
   rw[qw];exact qaav
 | .cons a r,s,X,E',ss,G,h=>by
   rcases ss with _ | ⟨x,xs⟩ <;> first | exact nb h | skip
   replace h:=an1 h
   rw[qw];exact q7l (sS a G h.1) (sL r G h.2)
 | .gh i r,s,X,E',ss,G,h=>by
   rw[qw];exact s_gh (sL r G h)
end
end
theorem nw0:qp1 CX0:=fun _ _ _ _ _ h=>h
section
variable {P:Program} {w:World} {K:PySem.W.Frag} {mg:Str→Option Value} {base:Heap}
inductive FT (CX:CXT) (P:Program) (w:World) (K:PySem.W.Frag) (mg:Str→Option Value) (base:Heap):List (Str × Nat × Nat)→List Fd→Prop where
 | nil:FT CX P w K mg base [] []
 | cons {x:Str} {n k:Nat} {F:Fd} {r:List (Str × Nat × Nat)} {Φ:List Fd}:FnT CX P w K mg base x n k F→FT CX P w K mg base r Φ→FT CX P w K mg base ((x,n,k)::r) (F::Φ)
theorem FT.get {CX:CXT}:∀ {r:List (Str × Nat × Nat)} {Φ:List Fd},FT CX P w K mg base r Φ→∀ (j:Nat) (x:Str) (n k:Nat),r[j]? =some (x,n,k)→∃ F,Φ[j]? =some F∧FnT CX P w K mg base x n k F
 | _,_,.nil,j,x,n,k,e=>by simp at e
 | _,_,.cons h t,0,x,n,k,e=>by
   simp at e
   obtain ⟨rfl,rfl,rfl⟩:=e
   exact⟨_,rfl,h⟩
 | _,_,.cons h t,j+1,x,n,k,e=>by
   obtain ⟨F,e1,e2⟩:=t.get j x n k (by simpa using e)
   exact⟨F,by simpa using e1,e2⟩
theorem qz6 {Φ:List Fd} {s:Sx} {N ps:List Str} {qual:Str} {sc:Scope} {f:Addr} {cdv:Value} {A:Around} {outer:List PySem.Env} {s₀:Shared} {H:Hp} {E E':XK} (S:qcv N ps sc) (hN:s.N=N) (hsc:s.sc=sc) (hf:s.fnb=fun _=>true) (hr:qct s.L (A.deeper (envOfC qual sc s₀.heap.objs.size f cdv)))
   (hb:∀ b ∈ s.bs,mg b=none) (hF:FT CX0 P w K mg base s.fns Φ):Gd CX0 Φ s (qm3 CX0 P w K mg base N qual sc f cdv A outer s₀ H E).nox E' where
 hN:=hN.symm
 hsc:=hsc.symm
 hfn:=hf.symm
 calm:=rfl
 room:=hr
 own:=PassesOwn.never
 pass:=fun _ _ _ _ _ _ _ h=>False.elim h
 nd:=by rw[hN];exact S.nd
 blt:=hb
 fns:=fun j x n k e=>hF.get j x n k e
theorem q8k {x qual:Str} {st:Stmt} {f:Addr} {fd:FuncData} {N ps:List Str} {k:Nat} {c:CSL} {fns:List (Str × Nat × Nat)} {Φ:List Fd} {bs:List Str} (F:Fun K x qual st f fd) (S:qcv N ps (qf st)) (hb:∀ b ∈ bs,mg b=none) (hF:FT CX0 P w K mg base fns Φ)
   (h:qlt ⟨N,qf st,fun _=>true,fns,k,bs⟩ c (qa1 st)=true):qef P w K mg base CX0 (k+1) f fd ps (spT ps.length (qbi (qw Φ fns c) (N.length - ps.length))) :=
 fn_T F S fun cdv A outer s H E hr=>sL nw0 c (qz6 (s:=⟨N,qf st,fun _=>true,fns,k,bs⟩) S rfl rfl rfl hr hb hF) h
theorem q4t {x:Str} {n k:Nat} {F:Fd} {f:Addr} {fd:FuncData} {ps:List Str} (G:qef P w K mg base CX0 k f fd ps (spT n F)) (m:mg x=some (.ref f)) (kp:PySem.W.keepIn K (.ref f)=true) (b:Binds K fd ps []):FnT CX0 P w K mg base x n k F:=⟨f,fd,ps,G,m,kp,b⟩
noncomputable def sp_law (K:PySem.W.Frag):Sp:=fun vs H Q _=>∃ (a:Addr) (ns:List Int),vs=[.ref a]∧SqL K H a (ns.map V.int)∧ns.length≤63∧∀ H',Q (.bl true) H'
noncomputable def sp_box (K:PySem.W.Frag):Sp:=fun vs H Q _=>∃ (a:Addr) (ns:List Int),vs=[.ref a]∧SqL K H a (ns.map V.int)∧ns.length≤63 ∧
 ∀ (b c:Addr) (ms:List Int) (H':Hp),H b=none→H c=none→c ≠ b→qgg H H'→H' b=some (.lst [.ref c,.int 0,.int 0,.int 17])→H' c=some (.lst (ms.map V.int))→Q (.ref b) H'
noncomputable def qz7 (ms:List Int):Cell:=.lst [.lst (ms.map D.int),.int 0,.int 0,.int 17]
theorem qb.ints {w:Wd} {H:Hp}:∀ (ms:List Int),qb w H (ms.map D.int) (ms.map V.int)
 | []=>rfl
 | m::ms=>⟨_,_,rfl,rfl,qb.ints ms⟩
theorem q8l {st:Stmt} {rest:List Stmt} {f:Addr} {fd:FuncData} {N:List Str} {bx:Str} {p1 p2 p3 p4 p5:Pos} {k kb:Nat} {c:CSL} {fns:List (Str × Nat × Nat)} {Φ:List Fd} {bs:List Str} (F:Fun K "law" "law" st f fd) (S:qcv N ["_law_script"] (qf st))
   (hst:qa1 st=.Assign [.Name bx p1] (.Call (.Name "_law_box" p2) [.Name "_law_script" p3] [] p4) p5::rest) (hx:qls ⟨N,qf st,fun _=>true,fns,k,bs⟩ 1 bx=true) (hy:qlr ⟨N,qf st,fun _=>true,fns,k,bs⟩ 0 "_law_script"=true) (hg:qz3 ⟨N,qf st,fun _=>true,fns,k,bs⟩ "_law_box"=true)
   (Gb:Fn P w K mg base "_law_box" ["_law_script"] kb (sp_box K)) (hk:kb≤k) (hb:∀ b ∈ bs,mg b=none) (hF:FT CX0 P w K mg base fns Φ) (h:qlt ⟨N,qf st,fun _=>true,fns,k,bs⟩ c rest=true)
   (hl:∀ (a:Addr) (ms:List Int),∃ Γ' S',qw Φ fns c (some (.at_ a)::some (.ref 0)::List.replicate (N.length - 2) none) [qz7 ms]=.ok (.rt (.bl true),Γ') S'):qef P w K mg base CX0 (k+1) f fd ["_law_script"] (sp_law K):=by
 refine F.ok S (fun vs H Q E h=> ?_) (fun cdv A outer s H vs Q E hr h'=> ?_)
 · obtain ⟨a,ns,rfl,_⟩:=h
   rfl
 · obtain ⟨a,ns,rfl,hS,hlen,kq⟩:=h'
   have G:Gd CX0 Φ ⟨N,qf st,fun _=>true,fns,k,bs⟩ (qm3 CX0 P w K mg base N "law" (qf st) f cdv A outer s H E).nox E0:=qz6 S rfl rfl rfl hr hb hF
   obtain ⟨g1,g2,g3⟩:=G.lc hx
   obtain ⟨g4,g5,g6⟩:=G.gl hg
   have hy':=hy
   unfold qlr at hy'
   simp only [Bool.and_eq_true,Bool.not_eq_true',decide_eq_true_eq]at hy'
   have h0:PE (qm3 CX0 P w K mg base N "law" (qf st) f cdv A outer s H E).nox (.Name "_law_script" p3) (q48 0):=qt7 hy'.1.1.1 (qz5 hy'.1.1.2) hy'.1.2 hy'.2
   have h1:=q97 (pos:=p4) (p:=p2) Gb hr hk g4 (qcu h0 qh8 rfl) g5 rfl rfl
   have h2:=sL nw0 c G h
   refine⟨_,by rw[hst];exact qrf (qyk (i:=1) (pos:=p5) (pos':=p1) S.nd g1 g2 h1 rfl g3) h2,?_⟩
   refine⟨.ref a,rfl,a,ns,rfl,hS,hlen,fun b c' ms H' hb hc hne hs e1 e2=> ?_⟩
   have hN2:2≤N.length:=by have:=(List.getElem?_eq_some_iff.mp g1).1;exact this
   have hsz:(L2.start N [V.ref a]).set 1 (some (.ref b))=some (.ref a)::some (.ref b)::List.replicate (N.length - 2) none:=by
     unfold L2.start
     obtain ⟨m,hm⟩:∃ m,N.length=m+2:=⟨N.length - 2,by omega⟩
     rw[hm]
     simp [List.replicate_succ]
   obtain ⟨Γ',S',he⟩:=hl a ms
   refine⟨⟨[b],fun z=>z=c'⟩,some (.at_ a)::some (.ref 0)::List.replicate (N.length - 2) none,[qz7 ms],?_,?_,?_⟩
   · rw[hsz]
     refine⟨by simp,fun i d e=> ?_⟩
     match i with
     | 0=>simp at e;subst e;exact⟨.ref a,rfl,rfl⟩
     | 1=>simp at e;subst e;exact⟨.ref b,rfl,b,rfl,rfl⟩
     | i+2=>simp [List.getElem?_replicate]at e
   · refine⟨fun z hz=>by rw[hz,e2];simp,rfl,by simp,fun z hz=>by rw[List.mem_singleton.mp hz,e1];simp,fun l a' cc ea ec=> ?_⟩
     match l with
     | 0 =>
       simp at ea ec
       subst ea ec
       exact⟨Ne.symm hne,_,e1,⟨_,_,rfl,⟨c',_,rfl,rfl,e2,qb.ints ms⟩,_,_,rfl,rfl,_,_,rfl,rfl,_,_,rfl,rfl,rfl⟩⟩
     | l+1=>simp at ea
   · rw[he]
     intro w' H'' _ _ v rv
     cases (show v=.bl true from rv)
     exact kq _
end
theorem len0 {α:Type} {P:List α→Prop} (h:P []):∀ us:List α,us.length=0→P us
 | [],_=>h
 | _::_,e=>by cases e
theorem qz8 {α:Type} {P:List α→Prop} (h:∀ a,P [a]):∀ us:List α,us.length=1→P us
 | [],e=>by cases e
 | a::r,e=>len0 (P:=fun r=>P (a::r)) (h a) r (Nat.succ.inj e)
theorem qis {α:Type} {P:List α→Prop} (h:∀ a b,P [a,b]):∀ us:List α,us.length=2→P us
 | [],e=>by cases e
 | a::r,e=>qz8 (P:=fun r=>P (a::r)) (h a) r (Nat.succ.inj e)
theorem qp2 {α:Type} {P:List α→Prop} (h:∀ a b c,P [a,b,c]):∀ us:List α,us.length=3→P us
 | [],e=>by cases e
 | a::r,e=>qis (P:=fun r=>P (a::r)) (h a) r (Nat.succ.inj e)
theorem len4 {α:Type} {P:List α→Prop} (h:∀ a b c d,P [a,b,c,d]):∀ us:List α,us.length=4→P us
 | [],e=>by cases e
 | a::r,e=>qp2 (P:=fun r=>P (a::r)) (h a) r (Nat.succ.inj e)
noncomputable def q8m (N P:List Str) (sc:Scope):Bool:=decide (sc.kind=.function) && !sc.isCoroutine && !sc.isGenerator && decide N.Nodup && decide (N.take P.length=P) && (P.all fun x=>decide (sc.names.lookup x=some .local) || decide (sc.names.lookup x=some .cell)) && sc.names.all fun y=>decide (y.2 ≠ .free)
theorem qks {N P:List Str} {sc:Scope} (h:q8m N P sc=true):qcv N P sc:=by
 simp only [q8m,Bool.and_eq_true,Bool.not_eq_true',decide_eq_true_eq,List.all_eq_true,Bool.or_eq_true]at h
 obtain ⟨⟨⟨⟨⟨⟨h1,h2⟩,h3⟩,h4⟩,h5⟩,h6⟩,h7⟩:=h
 exact⟨h1,h2,h3,h4,h5,h6,h7⟩
noncomputable def dOk (N P:List Str) (st:Stmt) (fns:List (Str × Nat × Nat)) (k:Nat) (bs:List Str) (c:CSL):Bool:=q8m N P (qf st) && qlt ⟨N,qf st,fun _=>true,fns,k,bs⟩ c (qa1 st)
section
variable {P:Program} {w:World} {K:PySem.W.Frag} {mg:Str→Option Value} {base h:Heap} {x:Str} {f:Addr} {st:Stmt} {oc kV dc pm cd ct:Value} {od an:Option Addr} {sl:Array (Option Value)} {N ps:List Str} {k:Nat} {c:CSL} {fns:List (Str × Nat × Nat)} {Φ:List Fd} {bs:List Str}
theorem qah (X:K.In h) (G:h.Ns mainGlobals mg) (a:PySem.W.nsIn K mainGlobals x=some (some (.ref f))) (l:K.lookup f=some ⟨oc,od,.func (PySem.W.fnOf x x (qcw st) (qa1 st) (qf st) .none kV dc pm an cd ct),sl⟩) (q:PySem.W.codeIn K cd x=true) (kp:PySem.W.keepIn K (.ref f)=true)
   (hb:∀ us:List Value,us.length=ps.length→bindArgs (PySem.W.fnOf x x (qcw st) (qa1 st) (qf st) .none kV dc pm an cd ct) ⟨us,[]⟩=pure (ps.zip us)) (B:∀ b ∈ bs,mg b=none) (hF:FT CX0 P w K mg base fns Φ) (h:dOk N ps st fns k bs c=true) :
   FnT CX0 P w K mg base x ps.length (k+1) (qbi (qw Φ fns c) (N.length - ps.length)):=by
 have F:=qpl (st:=st) l q kp
 unfold dOk at h
 rw[Bool.and_eq_true]at h
 exact q4t (q8k F (qks h.1) B hF h.2) (PySem.W.mg_of X G a) kp (.all hb)
theorem qabl {n:Nat} (X:K.In h) (G:h.Ns mainGlobals mg) (a:PySem.W.nsIn K mainGlobals x=some (some (.ref f))) (l:K.lookup f=some ⟨oc,od,.func (PySem.W.fnOf x x (qcw st) (qa1 st) (qf st) .none kV dc pm an cd ct),sl⟩) (q:PySem.W.codeIn K cd x=true) (kp:PySem.W.keepIn K (.ref f)=true)
   (hb:∀ us:List Value,us.length=ps.length→bindArgs (PySem.W.fnOf x x (qcw st) (qa1 st) (qf st) .none kV dc pm an cd ct) ⟨us,[]⟩=pure (ps.zip us)) (S:qcv N ps (qf st)):FnT CX0 P w K mg base x n 1 (fun _=>M.fail) :=
 q4t ((qpl (st:=st) l q kp).ok (sp:=spT n fun _=>M.fail) S (fun vs H Q E h=>by obtain ⟨_,_,_,_,_,_,q⟩:=h;exact False.elim q) (fun cdv A outer s H vs Q E hr h=>by obtain ⟨_,_,_,_,_,_,q⟩:=h;exact False.elim q)) (PySem.W.mg_of X G a) kp (.all hb)
end
noncomputable def Ok {α:Type} (r:Out α) (P:α→Sto→Prop):Prop:=match r with
 | .ok a S=>P a S
 | _=>False
@[simp] theorem qabm {α:Type} {a:α} {S:Sto} {P:α→Sto→Prop}:Ok (.ok a S) P=P a S:=(rfl)
theorem qao {α β:Type} {m:M α} {k:α→M β} {S:Sto} {P:β→Sto→Prop}:Ok (M.bind m k S) P=Ok (m S) (fun a S1=>Ok (k a S1) P):=by
 unfold M.bind
 cases m S <;> rfl
theorem Ok.mono {α:Type} {r:Out α} {P Q:α→Sto→Prop} (h:Ok r Q) (k:∀ a S,Q a S→P a S):Ok r P:=by
 cases r with
 | ok a S=>exact k a S h
 | err x S=>exact h
 | no=>exact h
theorem qdw {c:Prop} [Decidable c] {A B:Prop} (h1:c→A) (h2:¬ c→B):if c then A else B:=by
 by_cases h:c
 · rw[if_pos h];exact h1 h
 · rw[if_neg h];exact h2 h
@[simp] theorem pure_run {α:Type} {a:α} {S:Sto}:M.pure a S=.ok a S:=(rfl)
section
variable {Φ:List Fd} {f:List (Str × Nat × Nat)} {Γ:Env} {S:Sto} {P:D→Sto→Prop}
theorem okb {α β:Type} {m:M α} {k:α→M β} {S:Sto} {P:β→Sto→Prop}:Ok (M.bind m k S) P=Ok (m S) (fun a S1=>Ok (k a S1) P):=qao
@[simp] theorem qae4 {i:Nat}:Ok (evE Φ f (.var i) Γ S) P=Ok (qfd i Γ S) P:=by rw[evE]
@[simp] theorem qae5 {i:Int}:Ok (evE Φ f (.int i) Γ S) P=P (.int i) S:=by rw[evE];rfl
@[simp] theorem k_bl {i:Bool}:Ok (evE Φ f (.bl i) Γ S) P=P (.bl i) S:=by rw[evE];rfl
@[simp] theorem qae6:Ok (evE Φ f .non Γ S) P=P .non S:=by rw[evE];rfl
@[simp] theorem k_ty {n:String}:Ok (evE Φ f (.ty n) Γ S) P=P (.ty n) S:=by rw[evE];rfl
@[simp] theorem qae7 {nw:Bool} {op:Operator} {a b:CE}:Ok (evE Φ f (.bin nw op a b) Γ S) P=Ok (evE Φ f a Γ S) fun x S1=>Ok (evE Φ f b Γ S1) fun y S2=>Ok (qf8 nw op x y S2) P:=by rw[evE,okb];simp only [okb]
@[simp] theorem qae8 {a:CE}:Ok (evE Φ f (.neg a) Γ S) P=Ok (evE Φ f a Γ S) fun x S1=>Ok (qul x S1) P:=by rw[evE,okb]
@[simp] theorem qae9 {op:CmpOp} {a b:CE}:Ok (evE Φ f (.cmp op a b) Γ S) P=Ok (evE Φ f a Γ S) fun x S1=>Ok (evE Φ f b Γ S1) fun y S2=>Ok (qa6 op x y S2) P:=by rw[evE,okb];simp only [okb]
@[simp] theorem qacn {o p:CmpOp} {a b c:CE}:Ok (evE Φ f (.chain o p a b c) Γ S) P=Ok (evE Φ f a Γ S) fun x S1=>Ok (evE Φ f b Γ S1) fun y S2=>Ok (qa6 o x y S2) fun z S3=>Ok (asB z S3) fun d S4=>if d=true then Ok (evE Φ f c Γ S4) fun u S5=>Ok (qa6 p y u S5) P else P (.bl false) S4:=by
 rw[evE];unfold qih;rw[okb];simp only [okb];congr;funext x S1;congr;funext y S2;congr;funext z S3;congr;funext d S4;cases d <;> simp [okb] <;> rfl
@[simp] theorem qafa {a b:CE}:Ok (evE Φ f (.and a b) Γ S) P=Ok (evE Φ f a Γ S) fun x S1=>Ok (asB x S1) fun d S2=>if d=true then Ok (evE Φ f b Γ S2) P else P (.bl false) S2:=by
 rw[evE];unfold q67;rw[okb];simp only [okb];congr;funext x S1;congr;funext d S4;cases d <;> rfl
@[simp] theorem k_or {a b:CE}:Ok (evE Φ f (.or a b) Γ S) P=Ok (evE Φ f a Γ S) fun x S1=>Ok (asB x S1) fun d S2=>if d=true then P (.bl true) S2 else Ok (evE Φ f b Γ S2) P:=by
 rw[evE];unfold orV;rw[okb];simp only [okb];congr;funext x S1;congr;funext d S4;cases d <;> rfl
@[simp] theorem qafb {a:CE}:Ok (evE Φ f (.one a) Γ S) P=Ok (evE Φ f a Γ S) P:=by rw[evE]
@[simp] theorem qafc {a:CE}:Ok (evE Φ f (.not a) Γ S) P=Ok (evE Φ f a Γ S) fun x S1=>Ok (asB x S1) fun d S2=>P (.bl (!d)) S2:=by rw[evE];unfold q68;rw[okb];simp only [okb];rfl
@[simp] theorem qafd {c:CB} {a b:CE}:Ok (evE Φ f (.ife c a b) Γ S) P=Ok (evB Φ f c Γ S) fun d S1=>if d=true then Ok (evE Φ f a Γ S1) P else Ok (evE Φ f b Γ S1) P:=by rw[evE];unfold ifE;rw[okb];congr;funext d S4;cases d <;> rfl
@[simp] theorem qafe {as:CL}:Ok (evE Φ f (.tup as) Γ S) P=Ok (evA Φ f as Γ S) fun ds S1=>Ok (mkT ds S1) P:=by rw[evE,okb]
@[simp] theorem qaff {nw:Bool} {as:CL}:Ok (evE Φ f (.lst nw as) Γ S) P=Ok (evA Φ f as Γ S) fun ds S1=>Ok (mkL nw ds S1) P:=by rw[evE,okb]
@[simp] theorem qaeh {nw:Bool}:Ok (evE Φ f (.dnil nw) Γ S) P=Ok (alloc nw (.dct [] []) S) P:=by rw[evE]
@[simp] theorem k_ix {a i:CE}:Ok (evE Φ f (.ix a i) Γ S) P=Ok (evE Φ f a Γ S) fun x S1=>Ok (evE Φ f i Γ S1) fun y S2=>Ok (ixM (look x S2) y S2) P:=by rw[evE,okb];simp only [okb]
@[simp] theorem qaei {j:Nat} {as:CL}:Ok (evE Φ f (.call j as) Γ S) P=Ok (evA Φ f as Γ S) fun ds S1=>Ok (qg Φ f j ds S1) P:=by rw[evE,okb]
@[simp] theorem k_bi {b:Bi} {as:CL}:Ok (evE Φ f (.bi b as) Γ S) P=Ok (evA Φ f as Γ S) fun ds S1=>Ok (biF b ds S1) P:=by rw[evE,okb]
@[simp] theorem k_mt {m:Mt} {o:CE} {as:CL}:Ok (evE Φ f (.mt m o as) Γ S) P=Ok (evE Φ f o Γ S) fun x S1=>mtT m (look x S1)=true∧Ok (evA Φ f as Γ S1) fun ds S2=>Ok (mtF m x ds S2) P:=by
 rw[evE];unfold mtD;rw[okb];congr;funext x S1
 cases h:mtT m (look x S1)with
 | true=>simp only [if_true,okb,true_and]
 | false=>simp [M.fail,Ok]
@[simp] theorem k_lc {nw:Bool} {n:Nat} {t:CG} {i:CI} {c:CF} {e:CE}:Ok (evE Φ f (.lc nw n t i c e) Γ S) P=Ok (evI Φ f i Γ S) fun r S1=>r.1.length < sizeLine∧Ok (lcA r.2 n (evG Φ f t) (evF Φ f c) (evE Φ f e) Γ [] r.1 S1) fun ds S2=>Ok (alloc nw (.lst ds) S2) P:=by
 rw[evE];unfold lcD;rw[okb];congr;funext r S1
 by_cases h:r.1.length < sizeLine
 · simp only [h,decide_true,if_true,true_and,okb,noErr]
   cases lcA r.2 n (evG Φ f t) (evF Φ f c) (evE Φ f e) Γ [] r.1 S1 <;> rfl
 · simp [h,M.fail,Ok]
@[simp] theorem k_dc {nw:Bool} {n:Nat} {t:CG} {i:CI} {c:CF} {k e:CE}:Ok (evE Φ f (.dc nw n t i c k e) Γ S) P=Ok (evI Φ f i Γ S) fun r S1=>r.1.length < sizeLine∧Ok (dcA r.2 n (evG Φ f t) (evF Φ f c) (evE Φ f k) (evE Φ f e) Γ [] [] r.1 S1) fun ds S2=>Ok (alloc nw (.dct ds.1 ds.2) S2) P:=by
 rw[evE];unfold dcD;rw[okb];congr;funext r S1
 by_cases h:r.1.length < sizeLine
 · simp only [h,decide_true,if_true,true_and,okb,noErr]
   cases dcA r.2 n (evG Φ f t) (evF Φ f c) (evE Φ f k) (evE Φ f e) Γ [] [] r.1 S1 <;> rfl
 · simp [h,M.fail,Ok]
@[simp] theorem qaej {a:CE}:Ok (evE Φ f (.lset a) Γ S) P=Ok (evE Φ f a Γ S) fun x S1=>Ok (qdv x S1) P:=by rw[evE,okb]
@[simp] theorem qafg {a:CE}:Ok (evE Φ f (.frz a) Γ S) P=Ok (evE Φ f a Γ S) fun x S1=>Ok (qd3 x S1) P:=by rw[evE,okb]
variable {B:Bool→Sto→Prop}
@[simp] theorem qafh {op:CmpOp} {a b:CE}:Ok (evB Φ f (.cmp op a b) Γ S) B=Ok (evE Φ f a Γ S) fun x S1=>Ok (evE Φ f b Γ S1) fun y S2=>Ok (qa6 op x y S2) fun d S3=>Ok (asB d S3) B:=by rw[evB,okb,okb];simp only [okb]
@[simp] theorem qafi {a b:CB}:Ok (evB Φ f (.and a b) Γ S) B=Ok (evB Φ f a Γ S) fun d S2=>if d=true then Ok (evB Φ f b Γ S2) B else B false S2:=by
 rw[evB];unfold q64;rw[okb];congr;funext d S4;cases d <;> rfl
@[simp] theorem t_or {a b:CB}:Ok (evB Φ f (.or a b) Γ S) B=Ok (evB Φ f a Γ S) fun d S2=>if d=true then B true S2 else Ok (evB Φ f b Γ S2) B:=by
 rw[evB];unfold orB;rw[okb];congr;funext d S4;cases d <;> rfl
@[simp] theorem qafj {a:CB}:Ok (evB Φ f (.one a) Γ S) B=Ok (evB Φ f a Γ S) B:=by rw[evB]
@[simp] theorem qafk {a:CB}:Ok (evB Φ f (.not a) Γ S) B=Ok (evB Φ f a Γ S) fun d S2=>B (!d) S2:=by rw[evB];unfold q65;rw[okb];rfl
@[simp] theorem qafl {a:CE}:Ok (evB Φ f (.tru a) Γ S) B=Ok (evE Φ f a Γ S) fun d S2=>Ok (qhj d S2) B:=by rw[evB,okb]
@[simp] theorem qafm:Ok (evF Φ f .yes Γ S) B=B true S:=by rw[evF];rfl
@[simp] theorem f_if {a:CB}:Ok (evF Φ f (.if_ a) Γ S) B=Ok (evB Φ f a Γ S) B:=by rw[evF]
variable {Q:List D→Sto→Prop} {O:Option Int→Sto→Prop} {I:List D × Src→Sto→Prop} {R:Fl × Env→Sto→Prop} {G:Env→Sto→Prop}
@[simp] theorem qafn:Ok (evA Φ f .nil Γ S) Q=Q [] S:=by rw[evA];rfl
@[simp] theorem qaek {a:CE} {r:CL}:Ok (evA Φ f (.cons a r) Γ S) Q=Ok (evE Φ f a Γ S) fun x S1=>Ok (evA Φ f r Γ S1) fun xs S2=>Q (x::xs) S2:=by rw[evA];unfold qzo;rw[okb];simp only [okb];rfl
@[simp] theorem qael {a:CE}:Ok (evI Φ f (.seq a) Γ S) I=Ok (evE Φ f a Γ S) fun x S1=>Ok (qm x S1) I:=by rw[evI,okb]
@[simp] theorem qaco {a:CE}:Ok (evI Φ f (.keys a) Γ S) I=Ok (evE Φ f a Γ S) fun x S1=>Ok (qeh x S1) I:=by rw[evI,okb]
@[simp] theorem qacp {as:CL}:Ok (evI Φ f (.rng1 as) Γ S) I=Ok (evA Φ f as Γ S) fun x S1=>Ok (qdu x S1) I:=by rw[evI,okb]
@[simp] theorem qacq {as:CL}:Ok (evI Φ f (.enum as) Γ S) I=Ok (evA Φ f as Γ S) fun x S1=>Ok (qcb x S1) I:=by rw[evI,okb]
@[simp] theorem qaem {as:CL}:Ok (evI Φ f (.zip as) Γ S) I=Ok (evA Φ f as Γ S) fun x S1=>Ok (qfi x S1) I:=by rw[evI,okb]
@[simp] theorem g_nm {i:Nat} {d:D}:Ok (evG Φ f (.nm i) d Γ S) G=G (Γ.set i (some d)) S:=by rw[evG];rfl
@[simp] theorem g_tg {ts:CT} {ds:List D}:Ok (evG Φ f (.tg ts) (.tup ds) Γ S) G=(ds.length=qse ts∧Ok (evT Φ f ts ds Γ S) G):=by
 rw[evG];unfold qum;dsimp only [look];by_cases h:ds.length=qse ts <;> simp [h,Ok]
@[simp] theorem qaen {o i:CE} {d:D}:Ok (evG Φ f (.sub o i) d Γ S) G=Ok (evE Φ f o Γ S) fun x S1=>Ok (evE Φ f i Γ S1) fun y S2=>Ok (setM x y d S2) fun _ S3=>G Γ S3:=by rw[evG];unfold q7t;rw[okb];simp only [okb];rfl
@[simp] theorem qaeo:qse .nil=0:=(rfl)
@[simp] theorem qaep {a:CG} {r:CT}:qse (.cons a r)=qse r+1:=(rfl)
@[simp] theorem qaeq:Ok (evT Φ f .nil [] Γ S) G=G Γ S:=by rw[evT];rfl
@[simp] theorem qacr {a:CG} {r:CT} {d:D} {ds:List D}:Ok (evT Φ f (.cons a r) (d::ds) Γ S) G=Ok (evG Φ f a d Γ S) fun Γ1 S1=>Ok (evT Φ f r ds Γ1 S1) G:=by rw[evT];unfold qpq;rw[okb]
@[simp] theorem x_ex {a:CE}:Ok (evS Φ f (.ex a) Γ S) R=Ok (evE Φ f a Γ S) fun _ S1=>R (.nx,Γ) S1:=by rw[evS,okb];rfl
@[simp] theorem qafo {a:CE}:Ok (evS Φ f (.ret a) Γ S) R=Ok (evE Φ f a Γ S) fun d S1=>R (.rt d,Γ) S1:=by rw[evS,okb];rfl
@[simp] theorem x_if {c:CB} {a b:CSL}:Ok (evS Φ f (.sif c a b) Γ S) R=Ok (evB Φ f c Γ S) fun d S1=>if d=true then Ok (qw Φ f a Γ S1) R else Ok (qw Φ f b Γ S1) R:=by rw[evS];unfold ifS;rw[okb];congr;funext d S4;cases d <;> rfl
@[simp] theorem qafp {t:CG} {e:CE}:Ok (evS Φ f (.asg t e) Γ S) R=Ok (evE Φ f e Γ S) fun d S1=>Ok (evG Φ f t d Γ S1) fun Γ1 S2=>R (.nx,Γ1) S2:=by rw[evS,okb];simp only [okb];rfl
@[simp] theorem qafq {i:Nat} {e:CE}:Ok (evS Φ f (.set i e) Γ S) R=Ok (evE Φ f e Γ S) fun d S1=>R (.nx,Γ.set i (some d)) S1:=by rw[evS,okb];rfl
@[simp] theorem qacs {op:Operator} {o i e:CE}:Ok (evS Φ f (.augIx op o i e) Γ S) R=Ok (evE Φ f o Γ S) fun x S1=>Ok (evE Φ f i Γ S1) fun y S2=>Ok (ixW x y S2) fun u S3=>Ok (evE Φ f e Γ S3) fun v S4=>Ok (ipD op u v S4) fun z S5=>Ok (setM x y z S5) fun _ S6=>R (.nx,Γ) S6:=by
 rw[evS];unfold augIx;rw[okb];simp only [okb];rfl
@[simp] theorem qafr {t:CG} {i:CI} {b:CSL}:Ok (evS Φ f (.sfor t i b) Γ S) R=Ok (evI Φ f i Γ S) fun r S1=>Ok (forL r.2 (evG Φ f t) (qw Φ f b) r.1 Γ S1) R:=by rw[evS];unfold q20;rw[okb]
@[simp] theorem qact {c:CB} {b:CSL}:Ok (evS Φ f (.swhile c b) Γ S) R=Ok (qda (evB Φ f c) (qw Φ f b) Γ S) R:=by rw[evS]
@[simp] theorem qafs:Ok (qw Φ f .nil Γ S) R=R (.nx,Γ) S:=by rw[qw];rfl
noncomputable def Go (Φ:List Fd) (f:List (Str × Nat × Nat)) (r:CSL) (R:Fl × Env→Sto→Prop) (x:Fl × Env) (S:Sto):Prop:=match x.1 with
 | .nx=>Ok (qw Φ f r x.2 S) R
 | _=>R x S
theorem qa {a:CS} {r:CSL}:Ok (qw Φ f (.cons a r) Γ S) R=Ok (evS Φ f a Γ S) (Go Φ f r R):=by
 rw[qw];unfold seqS;rw[okb];congr;funext x S1;obtain ⟨fl,Γ1⟩:=x;cases fl <;> rfl
@[simp] theorem q4u {r:CSL}:Go Φ f r R (.nx,Γ) S=Ok (qw Φ f r Γ S) R:=(rfl)
@[simp] theorem qaft {r:CSL} {d:D}:Go Φ f r R (.rt d,Γ) S=R (.rt d,Γ) S:=(rfl)
noncomputable def Ret (P:D→Sto→Prop):Fl × Env→Sto→Prop:=fun r S'=>match r.1 with
 | .rt d=>P d S'
 | .nx=>P .non S'
 | _=>False
@[simp] theorem qaer {d:D}:Ret P (.rt d,Γ) S=P d S:=(rfl)
@[simp] theorem qaes:Ret P (.nx,Γ) S=P .non S:=(rfl)
end
theorem Ok.run {body:MS} {m:Nat} {ds:List D} {S:Sto} {P:D→Sto→Prop} (h:Ok (body (ds.map some++List.replicate m none) S) (Ret P)):Ok (qbi body m ds S) P:=by
 unfold qbi
 cases e:body (ds.map some++List.replicate m none) S with
 | ok r S' =>
   rw[e]at h
   obtain ⟨fl,Γ⟩:=r
   cases fl <;> exact h
 | err x S'=>rw[e]at h;exact h
 | no=>rw[e]at h;exact h
@[simp] theorem q85 {n:Nat} {F:Fd} {ds:List D}:qv n F ds=if ds.length=n then F ds else M.fail:=(rfl)
@[simp] theorem qh {S:Sto} {l:Nat} {xs:List D} (h:S[l]? =some (.lst xs)):look (.ref l) S=.lst xs:=by unfold look;dsimp only;rw[h]
@[simp] theorem qhn {S:Sto} {l:Nat} {ks:List Key} {xs:List D} (h:S[l]? =some (.dct ks xs)):look (.ref l) S=.dct ks xs:=by unfold look;dsimp only;rw[h]
@[simp] theorem q86 {S:Sto} {xs:List D}:look (.lst xs) S=.lst xs:=(rfl)
@[simp] theorem q87 {S:Sto} {xs:List D}:look (.tup xs) S=.tup xs:=(rfl)
@[simp] theorem qabn {S:Sto} {i:Bool}:look (.bl i) S=.bl i:=(rfl)
@[simp] theorem qafu {nw:Bool} {i j:Int}:qf8 nw .Add (.int i) (.int j)=M.pure (.int (i+j)):=(rfl)
@[simp] theorem qafv {nw:Bool} {i j:Int}:qf8 nw .Sub (.int i) (.int j)=M.pure (.int (i - j)):=(rfl)
theorem qlu {nw:Bool} {i j:Int} (h:qez i j=true):qf8 nw .Mult (.int i) (.int j)=M.pure (.int (i * j)):=by
 funext S;show (if qez i j=true then M.pure (D.int (i * j))else M.fail) S=_;rw[h];rfl
theorem qv9 {nw:Bool} {i j:Int} (h:qe5 i j):qf8 nw .FloorDiv (.int i) (.int j)=M.pure (.int (i / j)):=by
 funext S;show (if decide (qe5 i j)=true then M.pure (D.int (i / j))else M.fail) S=_;rw[decide_eq_true h];rfl
theorem qsg {nw:Bool} {i j:Int} (h:0 < j):qf8 nw .Mod (.int i) (.int j)=M.pure (.int (i % j)):=by
 funext S;show (if decide (0 < j)=true then M.pure (D.int (i % j))else M.fail) S=_;rw[decide_eq_true h];rfl
theorem qz9 {nw:Bool} {i j:Int} (h:qpc i j):qf8 nw .Pow (.int i) (.int j)=M.pure (.int (i ^ j.toNat)):=by
 funext S;show (if decide (qpc i j)=true then M.pure (D.int (i ^ j.toNat))else M.fail) S=_;rw[decide_eq_true h];rfl
@[simp] theorem c_lt {i j:Int}:qa6 .Lt (.int i) (.int j)=M.pure (.bl (decide (i < j))):=(rfl)
@[simp] theorem c_le {i j:Int}:qa6 .LtE (.int i) (.int j)=M.pure (.bl (decide (i≤j))):=(rfl)
@[simp] theorem c_gt {i j:Int}:qa6 .Gt (.int i) (.int j)=M.pure (.bl (decide (j < i))):=(rfl)
@[simp] theorem c_ge {i j:Int}:qa6 .GtE (.int i) (.int j)=M.pure (.bl (decide (j≤i))):=(rfl)
@[simp] theorem c_eq {i j:Int}:qa6 .Eq (.int i) (.int j)=M.pure (.bl (i==j)):=by
 funext S
 show (if decide (D.dep (.int i)≤60) && qpd (.int i) (.int j)then M.pure (D.bl (false != eqV (.int i) (.int j)))else M.fail) S=_
 simp [D.dep,qpd,eqV]
@[simp] theorem c_ne {i j:Int}:qa6 .NotEq (.int i) (.int j)=M.pure (.bl (i != j)):=by
 funext S
 show (if decide (D.dep (.int i)≤60) && qpd (.int i) (.int j)then M.pure (D.bl (true != eqV (.int i) (.int j)))else M.fail) S=_
 simp [D.dep,qpd,eqV,bne]
@[simp] theorem qaet {b:Bool}:asB (.bl b)=M.pure b:=(rfl)
@[simp] theorem qacu {ds:List D}:mkT ds=if sizeOk ds.length then M.pure (.tup ds)else M.fail:=(rfl)
theorem qbt {n:Nat} (h:n≤1000):sizeOk n=true:=decide_eq_true (Nat.le_of_lt (qbp h))
@[simp] theorem qafw {o:Option D} {Γ:Env}:qfd 0 (o::Γ)=match o with | some d=>M.pure d | none=>M.fail:=by
 unfold qfd;cases o <;> rfl
@[simp] theorem qafx {o:Option D} {Γ:Env} {i:Nat}:qfd (i+1) (o::Γ)=qfd i Γ:=by
 unfold qfd;rw[List.getElem?_cons_succ]
@[simp] theorem qlv {xs:List D} {i:Int} {S:Sto}:ixM (.lst xs) (.int i) S=match atI xs i with | some d=>.ok d S | none=>.no:=by unfold ixM;dsimp only;cases atI xs i <;> rfl
@[simp] theorem qyu {xs:List D} {i:Int} {S:Sto}:ixM (.tup xs) (.int i) S=match atI xs i with | some d=>.ok d S | none=>.no:=by unfold ixM;dsimp only;cases atI xs i <;> rfl
@[simp] theorem qacv {l:Nat} {i:D} {S:Sto}:ixW (.ref l) i S=ixM (look (.ref l) S) i S:=(rfl)
@[simp] theorem atI0 {α:Type} {a:α} {xs:List α}:atI (a::xs) 0=some a:=by unfold atI ixN;simp
@[simp] theorem atI1 {α:Type} {a b:α} {xs:List α}:atI (a::b::xs) 1=some b:=qfx (j:=1) rfl
@[simp] theorem atI2 {α:Type} {a b c:α} {xs:List α}:atI (a::b::c::xs) 2=some c:=qfx (j:=2) rfl
@[simp] theorem atI3 {α:Type} {a b c d:α} {xs:List α}:atI (a::b::c::d::xs) 3=some d:=qfx (j:=3) rfl
theorem qd5 {S:Sto} {l:Nat} {k:Int} {v:D}:setM (.ref l) (.int k) v S=match S[l]? with
   | some (.lst xs)=>match ixN xs.length k with
     | some j=>.ok () (S.set l (.lst (xs.set j v)))
     | none=>.no
   | some (.dct ks xs)=>if ks.length < sizeLine then .ok () (S.set l (.dct (qbg ks (.inl k)) (qax ks xs (.inl k) v)))else .no
   | _=>.no:=by
 unfold setM;dsimp only;cases S[l]? with
 | none=>rfl
 | some c=>cases c <;> rfl
theorem qp3 {S:Sto} {l:Nat} {xs:List D} {k:Int} {j:Nat} {v:D} (h:S[l]? =some (.lst xs)) (hj:ixN xs.length k=some j):setM (.ref l) (.int k) v S=.ok () (S.set l (.lst (xs.set j v))):=by
 unfold setM;dsimp only;rw[h];dsimp only;rw[hj]
@[simp] theorem ip_a {i j:Int} {S:Sto}:ipD .Add (.int i) (.int j) S=.ok (.int (i+j)) S:=(rfl)
@[simp] theorem ip_s {i j:Int} {S:Sto}:ipD .Sub (.int i) (.int j) S=.ok (.int (i - j)) S:=(rfl)
@[simp] theorem qaeu {xs:List D} {S:Sto}:biF .len [.lst xs] S=.ok (.int xs.length) S:=(rfl)
theorem qkt {n i:Nat} (h:i < n):ixN n (i:Int)=some i:=by unfold ixN;simp [h]
theorem q0a {α:Type} {xs:List α} {i:Int} (h0:0≤i) (h1:i < xs.length):∃ v,xs[i.toNat]? =some v∧atI xs i=some v:=by
 have hl:i.toNat < xs.length:=by omega
 refine⟨xs[i.toNat],List.getElem?_eq_getElem hl,?_⟩
 unfold atI ixN
 rw[if_pos h0,if_pos h1]
 exact List.getElem?_eq_getElem hl
noncomputable def qdi (c:Cell):Prop:=∃ (cells:List Int) (i r z:Int),c=.lst [.lst (cells.map D.int),.int i,.int r,.int z]∧0≤i∧0≤z∧z < 2147483629
noncomputable def qgn:CSL:=(.cons (.sif (.cmp .Gt (.ix (.var 0) (.int 2)) (.int 0)) (.cons (.set 2 (.ix (.var 0) (.int 2))) (.cons (.asg (.sub (.var 0) (.int 2)) (.bin false .FloorDiv (.var 2) (.var 1))) (.cons (.ret (.bin false .Mod (.var 2) (.var 1))) .nil))) .nil) (.cons (.set 3 (.int 0)) (.cons (.sif (.cmp .Lt (.ix (.var 0) (.int 1)) (.bi .len (.cons (.ix (.var 0) (.int 0)) .nil))) (.cons (.set 3 (.ix (.ix (.var 0) (.int 0)) (.ix (.var 0) (.int 1)))) (.cons (.augIx .Add (.var 0) (.int 1) (.int 1)) .nil)) .nil) (.cons (.sif (.cmp .GtE (.var 3) (.bin false .Pow (.int 10) (.int 18))) (.cons (.asg (.sub (.var 0) (.int 2)) (.bin false .FloorDiv (.var 3) (.var 1))) (.cons (.ret (.bin false .Mod (.var 3) (.var 1))) .nil)) .nil) (.cons (.set 4 (.ix (.var 0) (.int 3))) (.cons (.set 4 (.bin false .Add (.bin false .Add (.bin false .Pow (.var 4) (.int 3)) (.bin false .Mult (.int 48271) (.var 4))) (.bin false .Mult (.int 69621) (.bin false .Mod (.var 3) (.int 2147483629))))) (.cons (.asg (.sub (.var 0) (.int 3)) (.bin false .Mod (.bin false .Add (.var 4) (.int 11)) (.int 2147483629))) (.cons (.ret (.bin false .Mod (.bin false .FloorDiv (.ix (.var 0) (.int 3)) (.int 64)) (.var 1))) .nil))))))))
noncomputable def qus:List (Str × Nat × Nat):=[]
noncomputable def qx:Fd:=qbi (qw [] [] qgn) 3
theorem qp {c:Cell} {S:Sto} {m:Int} {P:D→Sto→Prop} (hc:qdi c) (h1:1≤m) (h2:m < 2 ^ 200) (k:∀ r c',0≤r→r < m→qdi c'→P (.int r) (c'::S)):Ok (qx [.ref 0,.int m] (c::S)) P:=by
 obtain ⟨cells,i,r,z,rfl,hi,hz,hz'⟩:=hc
 have hd:∀ i:Int,qe5 i m:=fun i=>⟨by omega,h2⟩
 refine Ok.run ?_
 unfold qgn
 rw[qa]
 simp
 refine qdw (fun h=> ?_) fun h=> ?_
 · simp [qa,qd5,qv9 (hd _),qsg (show 0 < m by omega),ixN]
   exact k _ _ (Int.emod_nonneg _ (by omega)) (Int.emod_lt_of_pos _ (by omega)) ⟨cells,i,_,z,rfl,hi,hz,hz'⟩
 · rw [qa]
   simp
   rw[qa]
   refine Ok.mono (Q:=fun x S'=>∃ v i',x=(.nx,[some (.ref 0),some (.int m),none,some (.int v),none])∧0≤i'∧S'=.lst [.lst (cells.map D.int),.int i',.int r,.int z]::S) ?_ ?_
   · simp
     refine qdw (fun h=> ?_) fun h=> ?_
     · obtain ⟨v,e1,e2⟩:=q0a (xs:=cells.map D.int) hi (by simpa using h)
       simp at e1
       obtain ⟨v',_,rfl⟩:=e1
       simp [qa,qd5,e2,ixN]
       omega
     · simp [hi]
   · rintro _ _ ⟨v,i',rfl,hi',rfl⟩
     rw[q4u,qa]
     simp [qz9 (show qpc 10 18 from ⟨by decide,by decide,by decide⟩)]
     refine qdw (fun h=> ?_) fun h=> ?_
     · simp [qa,qd5,qv9 (hd _),qsg (show 0 < m by omega),ixN]
       exact k _ _ (Int.emod_nonneg _ (by omega)) (Int.emod_lt_of_pos _ (by omega)) ⟨cells,i',_,z,rfl,hi',hz,hz'⟩
     · have e1:qpc z 3:=⟨by decide,by decide,by omega⟩
       have e2:qez 48271 z=true:=by unfold qez;rw[Bool.or_eq_true];exact .inl (decide_eq_true (.inl ⟨by decide,by decide⟩))
       have e3:qez 69621 (v % 2147483629)=true:=by unfold qez;rw[Bool.or_eq_true];exact .inl (decide_eq_true (.inl ⟨by decide,by decide⟩))
       simp [qa,qd5,qz9 e1,qlu e2,qlu e3,qsg (show 0 < m by omega),qsg,qv9 (show qe5 _ 64 from ⟨by decide,by decide⟩),ixN]
       exact k _ _ (Int.emod_nonneg _ (by omega)) (Int.emod_lt_of_pos _ (by omega)) ⟨cells,i',r,_,rfl,hi',Int.emod_nonneg _ (by decide),Int.emod_lt_of_pos _ (by decide)⟩
noncomputable def Nxt (R:Fl × Env→Sto→Prop) (J:Env→Sto→Prop):Fl × Env→Sto→Prop:=fun r S=>match r.1 with
 | .nx=>J r.2 S
 | .ct=>J r.2 S
 | .bk=>R (.nx,r.2) S
 | .rt d=>R (.rt d,r.2) S
section
variable {R:Fl × Env→Sto→Prop} {J:Env→Sto→Prop} {Γ:Env} {S:Sto}
@[simp] theorem qaev:Nxt R J (.nx,Γ) S=J Γ S:=(rfl)
@[simp] theorem qaew {d:D}:Nxt R J (.rt d,Γ) S=R (.rt d,Γ) S:=(rfl)
theorem qf2 {α:Type} {src:Src} {k:M α} {P:α→Sto→Prop} (h:q8 src S):Ok (M.bind (guard src) (fun _=>k) S) P=Ok (k S) P:=by
 unfold M.bind;rw[qr4 h]
theorem qit {src:Src} {hd:D→Env→M Env} {body:MS} {ds:List D} (Iv:Nat→Env→Sto→Prop) (hs:∀ i Γ S,Iv i Γ S→q8 src S)
   (step:∀ (i:Nat) d Γ S,ds[i]? =some d→Iv i Γ S→Ok (hd d Γ S) fun Γ1 S1=>Ok (body Γ1 S1) (Nxt R (Iv (i+1)))) (fin:∀ Γ S,Iv ds.length Γ S→R (.nx,Γ) S) :
   ∀ (k i:Nat) Γ S,i+k=ds.length→Iv i Γ S→Ok (forL src hd body (ds.drop i) Γ S) R
 | 0,i,Γ,S,e,h=>by
   have:i=ds.length:=by omega
   subst this
   rw[List.drop_length,forL,qf2 (hs _ _ _ h)]
   exact fin Γ S h
 | k+1,i,Γ,S,e,h=>by
   have hi:i < ds.length:=by omega
   rw[List.drop_eq_getElem_cons hi,forL,qf2 (hs _ _ _ h),qao]
   refine(step i _ Γ S (List.getElem?_eq_getElem hi) h).mono fun Γ1 S1 q=> ?_
   rw[qao]
   refine q.mono fun r S2 q=> ?_
   obtain ⟨fl,Γ2⟩:=r
   cases fl with
   | nx=>exact qit Iv hs step fin k (i+1) Γ2 S2 (by omega) q
   | ct=>exact qit Iv hs step fin k (i+1) Γ2 S2 (by omega) q
   | bk=>exact q
   | rt d=>exact q
theorem qa5 {src:Src} {hd:D→Env→M Env} {body:MS} {ds:List D} (Iv:Nat→Env→Sto→Prop) (h0:Iv 0 Γ S) (hs:∀ i Γ S,Iv i Γ S→q8 src S)
   (step:∀ (i:Nat) d Γ S,ds[i]? =some d→Iv i Γ S→Ok (hd d Γ S) fun Γ1 S1=>Ok (body Γ1 S1) (Nxt R (Iv (i+1)))) (fin:∀ Γ S,Iv ds.length Γ S→R (.nx,Γ) S):Ok (forL src hd body ds Γ S) R:=by
 have:=qit (R:=R) (hd:=hd) (body:=body) Iv hs step fin ds.length 0 Γ S (by omega) h0
 simpa using this
theorem qlw {src:Src} {n:Nat} {hd:D→Env→M Env} {cond:Env→M Bool} {elt:Env→M D} {ds:List D} {Q:List D→Sto→Prop} (Iv:Nat→List D→Sto→Prop) (hs:∀ i a S,Iv i a S→q8 src S)
   (step:∀ (i:Nat) d a S,ds[i]? =some d→Iv i a S→Ok (hd d (List.replicate n none++Γ) S) fun Γ1 S1=>Ok (cond Γ1 S1) fun b S2=>if b=true then Ok (elt Γ1 S2) fun y S3=>Iv (i+1) (a++[y]) S3 else Iv (i+1) a S2) (fin:∀ a S,Iv ds.length a S→Q a S) :
   ∀ (k i:Nat) a S,i+k=ds.length→Iv i a S→Ok (lcA src n hd cond elt Γ a (ds.drop i) S) Q
 | 0,i,a,S,e,h=>by
   have:i=ds.length:=by omega
   subst this
   rw[List.drop_length,lcA,qf2 (hs _ _ _ h)]
   exact fin a S h
 | k +1,i,a,S,e,h=>by
   have hi:i < ds.length:=by omega
   rw[List.drop_eq_getElem_cons hi,lcA,qf2 (hs _ _ _ h),qao]
   refine(step i _ a S (List.getElem?_eq_getElem hi) h).mono fun Γ1 S1 q=> ?_
   rw[qao]
   refine q.mono fun b S2 q=> ?_
   cases b with
   | true =>
     rw[if_pos rfl]at q
     rw[if_pos rfl,qao]
     exact q.mono fun y S3 q=>qlw Iv hs step fin k (i+1) _ S3 (by omega) q
   | false =>
     rw[if_neg Bool.false_ne_true]at q
     rw[if_neg Bool.false_ne_true]
     exact qlw Iv hs step fin k (i+1) _ S2 (by omega) q
theorem qlx {src:Src} {n:Nat} {hd:D→Env→M Env} {cond:Env→M Bool} {elt:Env→M D} {ds:List D} {Q:List D→Sto→Prop} (Iv:Nat→List D→Sto→Prop) (h0:Iv 0 [] S) (hs:∀ i a S,Iv i a S→q8 src S)
   (step:∀ (i:Nat) d a S,ds[i]? =some d→Iv i a S→Ok (hd d (List.replicate n none++Γ) S) fun Γ1 S1=>Ok (cond Γ1 S1) fun b S2=>if b=true then Ok (elt Γ1 S2) fun y S3=>Iv (i+1) (a++[y]) S3 else Iv (i+1) a S2) (fin:∀ a S,Iv ds.length a S→Q a S):Ok (lcA src n hd cond elt Γ [] ds S) Q:=by
 have:=qlw (Q:=Q) (hd:=hd) (cond:=cond) (elt:=elt) (n:=n) (Γ:=Γ) Iv hs step fin ds.length 0 [] S (by omega) h0
 simpa using this
theorem qly {src:Src} {n:Nat} {hd:D→Env→M Env} {cond:Env→M Bool} {fk fv:Env→M D} {ds:List D} {Q:List Key × List D→Sto→Prop} (Iv:Nat→List Key→List D→Sto→Prop) (hs:∀ i a b S,Iv i a b S→q8 src S)
   (step:∀ (i:Nat) d ks xs S,ds[i]? =some d→Iv i ks xs S→Ok (hd d (List.replicate n none++Γ) S) fun Γ1 S1=>Ok (cond Γ1 S1) fun b S2=>if b=true then Ok (fk Γ1 S2) fun k S3=>Ok (fv Γ1 S3) fun y S4=>∃ j,keyOf k=some j∧Iv (i+1) (qbg ks j) (qax ks xs j y) S4 else Iv (i+1) ks xs S2) (fin:∀ ks xs S,Iv ds.length ks xs S→Q (ks,xs) S) :
   ∀ (k i:Nat) ks xs S,i+k=ds.length→Iv i ks xs S→Ok (dcA src n hd cond fk fv Γ ks xs (ds.drop i) S) Q
 | 0,i,ks,xs,S,e,h=>by
   have:i=ds.length:=by omega
   subst this
   rw[List.drop_length,dcA,qf2 (hs _ _ _ _ h)]
   exact fin ks xs S h
 | k +1,i,ks,xs,S,e,h=>by
   have hi:i < ds.length:=by omega
   rw[List.drop_eq_getElem_cons hi,dcA,qf2 (hs _ _ _ _ h),qao]
   refine(step i _ ks xs S (List.getElem?_eq_getElem hi) h).mono fun Γ1 S1 q=> ?_
   rw[qao]
   refine q.mono fun b S2 q=> ?_
   cases b with
   | true =>
     rw[if_pos rfl]at q
     rw[if_pos rfl,qao]
     refine q.mono fun kk S3 q=> ?_
     rw[qao]
     refine q.mono fun y S4 q=> ?_
     obtain ⟨j,ej,q⟩:=q
     rw[ej]
     exact qly Iv hs step fin k (i+1) _ _ S4 (by omega) q
   | false =>
     rw[if_neg Bool.false_ne_true]at q
     rw[if_neg Bool.false_ne_true]
     exact qly Iv hs step fin k (i+1) _ _ S2 (by omega) q
theorem q8n {src:Src} {n:Nat} {hd:D→Env→M Env} {cond:Env→M Bool} {fk fv:Env→M D} {ds:List D} {Q:List Key × List D→Sto→Prop} (Iv:Nat→List Key→List D→Sto→Prop) (h0:Iv 0 [] [] S) (hs:∀ i a b S,Iv i a b S→q8 src S)
   (step:∀ (i:Nat) d ks xs S,ds[i]? =some d→Iv i ks xs S→Ok (hd d (List.replicate n none++Γ) S) fun Γ1 S1=>Ok (cond Γ1 S1) fun b S2=>if b=true then Ok (fk Γ1 S2) fun k S3=>Ok (fv Γ1 S3) fun y S4=>∃ j,keyOf k=some j∧Iv (i+1) (qbg ks j) (qax ks xs j y) S4 else Iv (i+1) ks xs S2) (fin:∀ ks xs S,Iv ds.length ks xs S→Q (ks,xs) S):Ok (dcA src n hd cond fk fv Γ [] [] ds S) Q:=by
 have:=qly (Q:=Q) (hd:=hd) (cond:=cond) (fk:=fk) (fv:=fv) (n:=n) (Γ:=Γ) Iv hs step fin ds.length 0 [] [] S (by omega) h0
 simpa using this
theorem qho {c:Env→M Bool} {body:MS} {n:Nat} {Γ:Env}:qk c body (n+1) Γ=M.bind (c Γ) fun b=>if b=true then M.bind (body Γ) fun r=>match r.1 with
   | .nx=>qk c body n r.2
   | .ct=>qk c body n r.2
   | .bk=>M.pure (.nx,r.2)
   | .rt d=>M.pure (.rt d,r.2)else M.pure (.nx,Γ):=rfl
theorem qiu {c:Env→M Bool} {body:MS}:∀ (n:Nat) Γ S,qk c body n Γ S ≠ .no→qk c body (n+1) Γ S=qk c body n Γ S
 | 0,Γ,S,h=>absurd rfl h
 | n + 1,Γ,S,h=>by
   rw[qho (n:=n+1),qho (n:=n)]
   rw[qho (n:=n)]at h
   unfold M.bind at h ⊢
   cases e:c Γ S with
   | no=>rfl
   | err x S1=>rfl
   | ok b S1 =>
     rw[e]at h
     dsimp only at h ⊢
     cases b with
     | false=>rfl
     | true =>
       rw[if_pos rfl]at h ⊢
       rw[if_pos rfl]
       cases e2:body Γ S1 with
       | no=>rfl
       | err x S2=>rfl
       | ok r S2 =>
         rw[e2]at h
         obtain ⟨fl,Γ2⟩:=r
         cases fl with
         | nx=>exact qiu n Γ2 S2 h
         | ct=>exact qiu n Γ2 S2 h
         | bk=>rfl
         | rt d=>rfl
theorem qiv {c:Env→M Bool} {body:MS} {n:Nat} (h:qk c body n Γ S ≠ .no):∀ k,qk c body (n+k) Γ S=qk c body n Γ S
 | 0=>rfl
 | k+1=>by
   have:=qiv h k
   rw[← Nat.add_assoc,qiu (n+k) Γ S (by rw[this];exact h),this]
theorem qx5 {c:Env→M Bool} {body:MS} {n:Nat} (h:Ok (qk c body n Γ S) R):Ok (qda c body Γ S) R:=by
 have hn:qk c body n Γ S ≠ .no:=fun e=>by rw[e]at h;exact h
 have he:∃ n,qk c body n Γ S ≠ .no:=⟨n,hn⟩
 unfold qda
 rw[dif_pos he]
 have hm:=he.choose_spec
 generalize he.choose=m at *
 rcases Nat.le_total n m with z | z
 · obtain ⟨k,rfl⟩:=Nat.le.dest z
   rw[qiv hn k];exact h
 · obtain ⟨k,rfl⟩:=Nat.le.dest z
   rw[← qiv hm k];exact h
end
noncomputable abbrev qlz:CSL:=.cons (.ex (.mt .append (.var 3) (.cons (.var 5) .nil))) .nil
noncomputable abbrev ql0:CSL:=.cons (.asg (.sub (.var 1) (.var 5)) (.var 4)) qlz
noncomputable abbrev ql1:CSL:=.cons (.sif (.and (.tru (.var 6)) (.one (.cmp .NotIn (.var 5) (.var 1)))) ql0 .nil) .nil
noncomputable abbrev ql2:CSL:=.cons (.sfor (.tg (.cons (.nm 5) (.cons (.nm 6) .nil))) (.enum (.cons (.ix (.var 2) (.var 4)) .nil)) ql1) .nil
noncomputable abbrev ql3:CSL:=.cons (.ret (.frz (.var 3))) .nil
noncomputable abbrev ql4:CSL:=.cons (.sfor (.nm 4) (.seq (.var 0)) ql2) ql3
noncomputable abbrev qej:CSL:=.cons (.set 3 (.lst true .nil)) ql4
noncomputable def qhp:List (Str × Nat × Nat):=[]
noncomputable def qhq:List Fd:=[]
noncomputable def qbx:Fd:=qbi (qw qhq qhp qej) 4
noncomputable abbrev ql5:CSL:=.cons (.ex (.mt .append (.var 3) (.cons (.var 5) .nil))) .nil
noncomputable abbrev ql6:CSL:=.cons (.asg (.sub (.var 1) (.var 5)) (.var 4)) ql5
noncomputable abbrev ql7:CSL:=.cons (.sif (.and (.cmp .Gt (.ix (.var 6) (.var 4)) (.int 0)) (.one (.cmp .NotIn (.var 5) (.var 1)))) ql6 .nil) .nil
noncomputable abbrev ql8:CSL:=.cons (.sfor (.tg (.cons (.nm 5) (.cons (.nm 6) .nil))) (.enum (.cons (.var 2) .nil)) ql7) .nil
noncomputable abbrev ql9:CSL:=.cons (.ret (.frz (.var 3))) .nil
noncomputable abbrev qma:CSL:=.cons (.sfor (.nm 4) (.seq (.var 0)) ql8) ql9
noncomputable abbrev qek:CSL:=.cons (.set 3 (.lst true .nil)) qma
noncomputable def qhr:List (Str × Nat × Nat):=[]
noncomputable def qhs:List Fd:=[]
noncomputable def qby:Fd:=qbi (qw qhs qhr qek) 4
noncomputable abbrev qsh:CSL:=.cons (.set 5 (.call 1 (.cons (.var 6) (.cons (.var 3) (.cons (.var 0) .nil))))) .nil
noncomputable abbrev qsi:CSL:=.cons (.set 6 (.call 0 (.cons (.var 5) (.cons (.var 4) (.cons (.var 2) .nil))))) qsh
noncomputable abbrev qsj:CSL:=.cons (.ret (.tup (.cons (.frz (.var 3)) (.cons (.frz (.var 4)) .nil)))) .nil
noncomputable abbrev qsk:CSL:=.cons (.swhile (.tru (.var 5)) qsi) qsj
noncomputable abbrev qsl:CSL:=.cons (.set 5 (.bi (.keys false) (.cons (.var 3) .nil))) qsk
noncomputable abbrev qsm:CSL:=.cons (.set 4 (.dnil true)) qsl
noncomputable abbrev qiw:CSL:=.cons (.set 3 (.dc true 2 (.tg (.cons (.nm 0) (.cons (.nm 1) .nil))) (.enum (.cons (.var 1) .nil)) (.if_ (.cmp .Gt (.var 1) (.int 0))) (.var 0) .non)) qsm
noncomputable def qf3:List (Str × Nat × Nat):=[("new_takers",3,1),("new_givers",3,1)]
noncomputable def qf4:List Fd:=[qbx,qby]
@[simp] theorem q3h:qg qf4 qf3 0=qv 3 qbx:=(rfl)
@[simp] theorem q3i:qg qf4 qf3 1=qv 3 qby:=(rfl)
noncomputable def qd6:Fd:=qbi (qw qf4 qf3 qiw) 4
noncomputable abbrev qgb:CSL:=.cons (.sif (.cmp .Gt (.ix (.var 1) (.var 2)) (.int 0)) (.cons (.ret (.var 2)) .nil) .nil) .nil
noncomputable abbrev qgc:CSL:=.cons (.ret .non) .nil
noncomputable abbrev qbz:CSL:=.cons (.sfor (.nm 2) (.keys (.var 0)) qgb) qgc
noncomputable def qdl:List (Str × Nat × Nat):=[]
noncomputable def qdm:List Fd:=[]
noncomputable def qap:Fd:=qbi (qw qdm qdl qbz) 1
noncomputable abbrev qsn:CSL:=.cons (.set 4 (.ix (.var 1) (.var 5))) .nil
noncomputable abbrev qso:CSL:=.cons (.ex (.mt .append (.var 3) (.cons (.tup (.cons (.var 5) (.cons (.var 4) (.cons (.ix (.var 1) (.var 5)) .nil)))) .nil))) qsn
noncomputable abbrev qsp:CSL:=.cons (.set 5 (.ix (.var 2) (.var 4))) qso
noncomputable abbrev qsq:CSL:=.cons (.ret (.frz (.var 3))) .nil
noncomputable abbrev qsr:CSL:=.cons (.swhile (.cmp .IsNot (.var 4) .non) qsp) qsq
noncomputable abbrev qss:CSL:=.cons (.set 4 (.var 0)) qsr
noncomputable abbrev qix:CSL:=.cons (.set 3 (.lst true .nil)) qss
noncomputable def qox:List (Str × Nat × Nat):=[]
noncomputable def qoy:List Fd:=[]
noncomputable def qd7:Fd:=qbi (qw qoy qox qix) 3
noncomputable abbrev qmb:CSL:=.cons (.sif (.cmp .IsNot (.var 10) .non) (.cons (.augIx .Sub (.ix (.var 1) (.var 8)) (.var 10) (.var 7)) .nil) .nil) .nil
noncomputable abbrev qmc:CSL:=.cons (.augIx .Add (.ix (.var 1) (.var 8)) (.var 9) (.var 7)) qmb
noncomputable abbrev qmd:CSL:=.cons (.augIx .Sub (.var 3) (.var 4) (.var 7)) .nil
noncomputable abbrev qme:CSL:=.cons (.augIx .Sub (.var 2) (.var 5) (.var 7)) qmd
noncomputable abbrev qmf:CSL:=.cons (.sfor (.tg (.cons (.nm 8) (.cons (.nm 9) (.cons (.nm 10) .nil)))) (.seq (.var 0)) qmc) qme
noncomputable abbrev qmg:CSL:=.cons (.set 7 (.bi .min (.cons (.bin false .Add (.lst false (.cons (.ix (.var 3) (.var 4)) (.cons (.ix (.var 2) (.var 5)) .nil))) (.var 6)) .nil))) qmf
noncomputable abbrev qmh:CSL:=.cons (.set 6 (.lc false 3 (.tg (.cons (.nm 0) (.cons (.nm 1) (.cons (.nm 2) .nil)))) (.seq (.var 0)) (.if_ (.cmp .IsNot (.var 2) .non)) (.ix (.ix (.var 4) (.var 0)) (.var 2)))) qmg
noncomputable abbrev qmi:CSL:=.cons (.set 5 (.ix (.ix (.var 0) (.neg (.int 1))) (.int 0))) qmh
noncomputable abbrev qel:CSL:=.cons (.set 4 (.ix (.ix (.var 0) (.int 0)) (.int 1))) qmi
noncomputable def qht:List (Str × Nat × Nat):=[]
noncomputable def qhu:List Fd:=[]
noncomputable def qb0:Fd:=qbi (qw qhu qht qel) 7
noncomputable abbrev qst:CSL:=.cons (.ret (.tup (.cons (.frz (.var 2)) (.cons (.var 5) (.cons (.var 6) .nil))))) .nil
noncomputable abbrev qsu:CSL:=.cons (.ex (.call 3 (.cons (.call 2 (.cons (.var 7) (.cons (.var 5) (.cons (.var 6) .nil)))) (.cons (.var 2) (.cons (.var 3) (.cons (.var 4) .nil)))))) .nil
noncomputable abbrev qsv:CSL:=.cons (.sif (.cmp .Is (.var 7) .non) qst .nil) qsu
noncomputable abbrev qsw:CSL:=.cons (.set 7 (.call 1 (.cons (.var 6) (.cons (.var 4) .nil)))) qsv
noncomputable abbrev qsx:CSL:=.cons (.asg (.tg (.cons (.nm 5) (.cons (.nm 6) .nil))) (.call 0 (.cons (.var 2) (.cons (.var 3) (.cons (.var 1) .nil))))) qsw
noncomputable abbrev qsy:CSL:=.cons (.swhile (.tru (.bl true)) qsx) .nil
noncomputable abbrev qsz:CSL:=.cons (.set 4 (.bi (.list true) (.cons (.var 0) .nil))) qsy
noncomputable abbrev qs0:CSL:=.cons (.set 3 (.bi (.list true) (.cons (.var 0) .nil))) qsz
noncomputable abbrev qiy:CSL:=.cons (.set 2 (.lc true 1 (.nm 0) (.seq (.var 0)) .yes (.bin true .Mult (.lst false (.cons (.int 0) .nil)) (.bi .len (.cons (.var 1) .nil))))) qs0
noncomputable def qc0:List (Str × Nat × Nat):=[("reached",3,2),("first_with_room",2,1),("path_to",3,1),("give_along",4,1)]
noncomputable def qc1:List Fd:=[qd6,qap,qd7,qb0]
@[simp] theorem q3j:qg qc1 qc0 0=qv 3 qd6:=(rfl)
@[simp] theorem q3k:qg qc1 qc0 1=qv 2 qap:=(rfl)
@[simp] theorem q3l:qg qc1 qc0 2=qv 3 qd7:=(rfl)
@[simp] theorem q3m:qg qc1 qc0 3=qv 4 qb0:=(rfl)
noncomputable def qcd:Fd:=qbi (qw qc1 qc0 qiy) 6
noncomputable abbrev qng:CSL:=.cons (.ret (.lc false 1 (.nm 0) (.rng1 (.cons (.var 1) .nil)) .yes (.lc false 1 (.nm 0) (.rng1 (.cons (.var 2) .nil)) .yes (.cmp .NotEq (.var 1) (.var 0))))) .nil
noncomputable abbrev qnh:CSL:=.cons (.asg (.sub (.ix (.var 2) (.var 4)) (.var 3)) (.bl true)) .nil
noncomputable abbrev qni:CSL:=.cons (.asg (.sub (.ix (.var 2) (.var 3)) (.var 4)) (.bl true)) qnh
noncomputable abbrev qnj:CSL:=.cons (.ret (.frz (.var 2))) .nil
noncomputable abbrev qnk:CSL:=.cons (.sfor (.tg (.cons (.nm 3) (.cons (.nm 4) .nil))) (.seq (.var 0)) qni) qnj
noncomputable abbrev qnl:CSL:=.cons (.set 2 (.lc true 1 (.nm 0) (.rng1 (.cons (.var 1) .nil)) .yes (.bin true .Mult (.lst false (.cons (.bl false) .nil)) (.var 2)))) qnk
noncomputable abbrev qfk:CSL:=.cons (.sif (.cmp .Is (.var 0) .non) qng .nil) qnl
noncomputable def qjs:List (Str × Nat × Nat):=[]
noncomputable def qjt:List Fd:=[]
noncomputable def qa7:Fd:=qbi (qw qjt qjs qfk) 3
noncomputable abbrev qp4:CSL:=.cons (.ret (.lc true 2 (.tg (.cons (.nm 0) (.cons (.nm 1) .nil))) (.enum (.cons (.var 2) .nil)) .yes (.lc true 2 (.tg (.cons (.nm 0) (.cons (.nm 1) .nil))) (.enum (.cons (.var 1) .nil)) .yes (.bin false .Add (.var 1) (.ix (.ix (.var 6) (.var 0)) (.var 2)))))) .nil
noncomputable abbrev qgo:CSL:=.cons (.asg (.tg (.cons (.nm 2) (.cons (.nm 3) (.cons (.nm 4) .nil)))) (.call 0 (.cons (.var 0) (.cons (.call 1 (.cons (.var 1) (.cons (.bi .len (.cons (.var 0) .nil)) .nil))) .nil)))) qp4
noncomputable def qem:List (Str × Nat × Nat):=[("fullest",2,3),("tie_table",2,1)]
noncomputable def qgp:List Fd:=[qcd,qa7]
@[simp] theorem q1i:qg qgp qem 0=qv 2 qcd:=(rfl)
@[simp] theorem q1j:qg qgp qem 1=qv 2 qa7:=(rfl)
noncomputable def qce:Fd:=qbi (qw qgp qem qgo) 3
noncomputable abbrev qnm:CSL:=.cons (.ret (.call 0 (.cons (.var 0) (.cons (.int 1000000) .nil)))) .nil
noncomputable abbrev qnn:CSL:=.cons (.set 2 (.bin false .Add (.bin false .Mult (.var 2) (.int 1000000)) (.call 0 (.cons (.var 0) (.cons (.int 1000000) .nil))))) .nil
noncomputable abbrev qno:CSL:=.cons (.ret (.var 2)) .nil
noncomputable abbrev qnp:CSL:=.cons (.sfor (.nm 3) (.rng1 (.cons (.int 3) .nil)) qnn) qno
noncomputable abbrev qnq:CSL:=.cons (.set 2 (.int 0)) qnp
noncomputable abbrev qnr:CSL:=.cons (.sif (.cmp .Eq (.var 1) (.int 1)) qnm .nil) qnq
noncomputable abbrev qns:CSL:=.cons (.sif (.cmp .Eq (.var 1) (.int 0)) (.cons (.ret (.call 0 (.cons (.var 0) (.cons (.int 10) .nil)))) .nil) .nil) qnr
noncomputable abbrev qfl:CSL:=.cons (.set 1 (.call 0 (.cons (.var 0) (.cons (.int 4) .nil)))) qns
noncomputable def qfm:List (Str × Nat × Nat):=[("_law_take",2,1)]
noncomputable def qju:List Fd:=[qx]
@[simp] theorem q0b:qg qju qfm 0=qv 2 qx:=(rfl)
noncomputable def qdn:Fd:=qbi (qw qju qfm qfl) 3
noncomputable abbrev qp5:CSL:=.cons (.ret (.and (.cmp .Eq (.bi .len (.cons (.var 0) .nil)) (.bi .len (.cons (.var 1) .nil))) (.one (.bi .all (.cons (.lc false 2 (.tg (.cons (.nm 0) (.cons (.nm 1) .nil))) (.zip (.cons (.var 0) (.cons (.var 1) .nil))) .yes (.call 0 (.cons (.var 0) (.cons (.var 1) .nil)))) .nil))))) .nil
noncomputable abbrev qp6:CSL:=.cons (.sif (.or (.cmp .NotEq (.bi .isi (.cons (.var 0) (.cons (.ty "list") .nil))) (.bi .isi (.cons (.var 1) (.cons (.ty "list") .nil)))) (.one (.cmp .NotEq (.bi .isi (.cons (.var 0) (.cons (.ty "tuple") .nil))) (.bi .isi (.cons (.var 1) (.cons (.ty "tuple") .nil)))))) (.cons (.ret (.bl false)) .nil) .nil) qp5
noncomputable abbrev qp7:CSL:=.cons (.ret (.and (.cmp .Is (.var 0) .non) (.one (.cmp .Is (.var 1) .non)))) .nil
noncomputable abbrev qp8:CSL:=.cons (.ret (.and (.cmp .Eq (.bi .isi (.cons (.var 0) (.cons (.ty "str") .nil))) (.bi .isi (.cons (.var 1) (.cons (.ty "str") .nil)))) (.one (.cmp .Eq (.var 0) (.var 1))))) .nil
noncomputable abbrev qp9:CSL:=.cons (.sif (.or (.cmp .NotEq (.bi .isi (.cons (.var 0) (.cons (.ty "bool") .nil))) (.bi .isi (.cons (.var 1) (.cons (.ty "bool") .nil)))) (.one (.cmp .NotEq (.bi .isi (.cons (.var 0) (.cons (.ty "int") .nil))) (.bi .isi (.cons (.var 1) (.cons (.ty "int") .nil)))))) (.cons (.ret (.bl false)) .nil) .nil) qp8
noncomputable abbrev qqa:CSL:=.cons (.sif (.or (.cmp .Is (.var 0) .non) (.one (.cmp .Is (.var 1) .non))) qp7 .nil) qp9
noncomputable abbrev qen:CSL:=.cons (.sif (.or (.tru (.bi .isi (.cons (.var 1) (.cons (.ty "list") .nil)))) (.one (.tru (.bi .isi (.cons (.var 1) (.cons (.ty "tuple") .nil)))))) qp6 .nil) qqa
noncomputable def qgq (d:Nat):List (Str × Nat × Nat):=[("_law_same",2,d+1)]
noncomputable def qas:Nat→Fd
 | 0=>fun _=>M.fail
 | d+1=>qbi (qw [qas d] (qgq d) qen) 0
noncomputable abbrev qgr:CSL:=.cons (.ret (.bi .all (.cons (.lc false 1 (.nm 0) (.seq (.var 0)) .yes (.and (.bi .isi (.cons (.var 0) (.cons (.ty "int") .nil))) (.one (.not (.bi .isi (.cons (.var 0) (.cons (.ty "bool") .nil))))))) .nil))) .nil
noncomputable abbrev qcf:CSL:=.cons (.sif (.or (.not (.tru (.bi .isi (.cons (.var 0) (.cons (.ty "list") .nil))))) (.one (.cmp .NotEq (.bi .len (.cons (.var 0) .nil)) (.var 1)))) (.cons (.ret (.bl false)) .nil) .nil) qgr
noncomputable def qd8:List (Str × Nat × Nat):=[]
noncomputable def qiz:List Fd:=[]
noncomputable def qba:Fd:=qbi (qw qiz qd8 qcf) 0
noncomputable abbrev qgs:CSL:=.cons (.ex (.mt .append (.var 3) (.cons (.call 0 (.cons (.var 0) (.cons (.int 7) .nil))) .nil))) .nil
noncomputable abbrev qgt:CSL:=.cons (.ex (.mt .append (.var 3) (.cons (.call 1 (.cons (.var 0) .nil)) .nil))) .nil
noncomputable abbrev qgu:CSL:=.cons (.ex (.mt .append (.var 3) (.cons (.bin false .Mult (.call 0 (.cons (.var 0) (.cons (.int 3) .nil))) (.call 0 (.cons (.var 0) (.cons (.int 60) .nil)))) .nil))) .nil
noncomputable abbrev qgv:CSL:=.cons (.sif (.cmp .Eq (.var 2) (.int 1)) qgt qgu) .nil
noncomputable abbrev qgw:CSL:=.cons (.sif (.cmp .Eq (.var 2) (.int 0)) qgs qgv) .nil
noncomputable abbrev qgx:CSL:=.cons (.asg (.sub (.var 3) (.var 5)) (.bi .max (.cons (.int 0) (.cons (.bin false .Sub (.bin false .Add (.bin false .Sub (.bi .sum (.cons (.var 3) .nil)) (.ix (.var 3) (.var 5))) (.call 0 (.cons (.var 0) (.cons (.int 3) .nil)))) (.int 1)) .nil)))) .nil
noncomputable abbrev qgy:CSL:=.cons (.set 5 (.call 0 (.cons (.var 0) (.cons (.var 1) .nil)))) qgx
noncomputable abbrev qgz:CSL:=.cons (.ret (.var 3)) .nil
noncomputable abbrev qg0:CSL:=.cons (.sif (.and (.cmp .Eq (.var 2) (.int 3)) (.one (.cmp .Gt (.var 1) (.int 0)))) qgy .nil) qgz
noncomputable abbrev qg1:CSL:=.cons (.sfor (.nm 4) (.rng1 (.cons (.var 1) .nil)) qgw) qg0
noncomputable abbrev qgd:CSL:=.cons (.set 3 (.lst true .nil)) qg1
noncomputable abbrev qcg:CSL:=.cons (.set 2 (.call 0 (.cons (.var 0) (.cons (.int 4) .nil)))) qgd
noncomputable def qay:List (Str × Nat × Nat):=[("_law_take",2,1),("_law_great",1,2)]
noncomputable def qbb:List Fd:=[qx,qdn]
@[simp] theorem qt4:qg qbb qay 0=qv 2 qx:=(rfl)
@[simp] theorem qt5:qg qbb qay 1=qv 1 qdn:=(rfl)
noncomputable def qbc:Fd:=qbi (qw qbb qay qcg) 4
noncomputable abbrev qi0:CSL:=.cons (.ex (.mt .insert (.var 2) (.cons (.call 0 (.cons (.var 0) (.cons (.bin false .Add (.bi .len (.cons (.var 2) .nil)) (.int 1)) .nil))) (.cons (.ix (.lst false (.cons (.tup (.cons (.var 4) (.cons (.var 5) .nil))) (.cons (.tup (.cons (.var 5) (.cons (.var 4) .nil))) .nil))) (.call 0 (.cons (.var 0) (.cons (.int 2) .nil)))) .nil)))) .nil
noncomputable abbrev qi1:CSL:=.cons (.sif (.cmp .Lt (.call 0 (.cons (.var 0) (.cons (.int 4) .nil))) (.var 3)) qi0 .nil) .nil
noncomputable abbrev qi2:CSL:=.cons (.sfor (.nm 5) (.rng1 (.cons (.var 4) .nil)) qi1) .nil
noncomputable abbrev qi3:CSL:=.cons (.ex (.mt .append (.var 2) (.cons (.ix (.lst false (.cons (.var 6) (.cons (.tup (.cons (.ix (.var 6) (.int 1)) (.cons (.ix (.var 6) (.int 0)) .nil))) .nil))) (.call 0 (.cons (.var 0) (.cons (.int 2) .nil)))) .nil))) .nil
noncomputable abbrev qi4:CSL:=.cons (.set 6 (.ix (.var 2) (.call 0 (.cons (.var 0) (.cons (.bi .len (.cons (.var 2) .nil)) .nil))))) qi3
noncomputable abbrev qi5:CSL:=.cons (.ret (.frz (.var 2))) .nil
noncomputable abbrev qi6:CSL:=.cons (.sif (.and (.cmp .Gt (.bi .len (.cons (.var 2) .nil)) (.int 0)) (.one (.cmp .Eq (.call 0 (.cons (.var 0) (.cons (.int 3) .nil))) (.int 0)))) qi4 .nil) qi5
noncomputable abbrev qi7:CSL:=.cons (.sfor (.nm 4) (.rng1 (.cons (.var 1) .nil)) qi2) qi6
noncomputable abbrev qi8:CSL:=.cons (.set 3 (.bin false .Add (.int 1) (.call 0 (.cons (.var 0) (.cons (.int 4) .nil))))) qi7
noncomputable abbrev qi9:CSL:=.cons (.set 2 (.lst true .nil)) qi8
noncomputable abbrev qdb:CSL:=.cons (.sif (.cmp .Lt (.var 1) (.int 2)) (.cons (.ret (.lst false .nil)) .nil) .nil) qi9
noncomputable def qb1:List (Str × Nat × Nat):=[("_law_take",2,1)]
noncomputable def qdc:List Fd:=[qx]
@[simp] theorem qwa:qg qdc qb1 0=qv 2 qx:=(rfl)
noncomputable def qb2:Fd:=qbi (qw qdc qb1 qdb) 5
noncomputable abbrev qja:CSL:=.cons (.ret (.call 1 (.cons (.var 0) (.cons (.var 1) .nil)))) .nil
noncomputable abbrev qdd:CSL:=.cons (.sif (.cmp .Eq (.call 0 (.cons (.var 0) (.cons (.int 4) .nil))) (.int 0)) (.cons (.ret .non) .nil) .nil) qja
noncomputable def qb3:List (Str × Nat × Nat):=[("_law_take",2,1),("_law_tie_list",2,2)]
noncomputable def qde:List Fd:=[qx,qb2]
@[simp] theorem qwb:qg qde qb3 0=qv 2 qx:=(rfl)
@[simp] theorem qwc:qg qde qb3 1=qv 2 qb2:=(rfl)
noncomputable def qb4:Fd:=qbi (qw qde qb3 qdd) 0
noncomputable abbrev qhv:CSL:=.cons (.ret (.bi (.list false) (.cons (.var 0) .nil))) .nil
noncomputable abbrev qcs:CSL:=.cons (.sif (.cmp .Is (.var 0) .non) (.cons (.ret .non) .nil) .nil) qhv
noncomputable def qe0:List (Str × Nat × Nat):=[]
noncomputable def qj9:List Fd:=[]
noncomputable def qa3:Fd:=qbi (qw qj9 qe0 qcs) 0
noncomputable abbrev qs1:CSL:=.cons (.ret (.or (.cmp .In (.tup (.cons (.var 1) (.cons (.var 2) .nil))) (.var 0)) (.one (.cmp .In (.tup (.cons (.var 2) (.cons (.var 1) .nil))) (.var 0))))) .nil
noncomputable abbrev qjb:CSL:=.cons (.sif (.cmp .Is (.var 0) .non) (.cons (.ret (.cmp .NotEq (.var 1) (.var 2))) .nil) .nil) qs1
noncomputable def qoz:List (Str × Nat × Nat):=[]
noncomputable def qx6:List Fd:=[]
noncomputable def qch:Fd:=qbi (qw qx6 qoz qjb) 0
noncomputable abbrev qg2:CSL:=.cons (.ret (.lc false 1 (.nm 0) (.rng1 (.cons (.var 1) .nil)) (.if_ (.tru (.bi .any (.cons (.lc false 1 (.nm 0) (.seq (.var 3)) .yes (.call 0 (.cons (.var 2) (.cons (.var 1) (.cons (.var 0) .nil))))) .nil)))) (.var 0))) .nil
noncomputable def qg3:List (Str × Nat × Nat):=[("_law_are",3,1)]
noncomputable def qmj:List Fd:=[qch]
@[simp] theorem q1k:qg qmj qg3 0=qv 3 qch:=(rfl)
noncomputable def qeo:Fd:=qbi (qw qmj qg3 qg2) 0
noncomputable abbrev qnt:CSL:=.cons (.ret (.cmp .Gt (.bi .sum (.cons (.lc false 1 (.nm 0) (.seq (.var 2)) .yes (.ix (.var 1) (.var 0))) .nil)) (.bi .sum (.cons (.lc false 1 (.nm 0) (.seq (.var 3)) .yes (.ix (.var 1) (.var 0))) .nil)))) .nil
noncomputable abbrev qfn:CSL:=.cons (.set 3 (.call 0 (.cons (.var 1) (.cons (.bi .len (.cons (.var 0) .nil)) (.cons (.var 2) .nil))))) qnt
noncomputable def qfo:List (Str × Nat × Nat):=[("_law_near",3,2)]
noncomputable def qjv:List Fd:=[qeo]
@[simp] theorem q0c:qg qjv qfo 0=qv 3 qeo:=(rfl)
noncomputable def qdo:Fd:=qbi (qw qjv qfo qfn) 1
noncomputable abbrev qka:CSL:=.cons (.asg (.sub (.ix (.var 4) (.var 6)) (.var 5)) (.ix (.ix (.var 4) (.var 5)) (.var 6))) .nil
noncomputable abbrev qkb:CSL:=.cons (.asg (.sub (.ix (.var 4) (.var 5)) (.var 6)) (.bin false .Mult (.bin false .Mult (.int 2) (.call 0 (.cons (.var 0) (.cons (.var 3) .nil)))) (.bin false .Mod (.call 0 (.cons (.var 0) (.cons (.int 3) .nil))) (.int 2)))) qka
noncomputable abbrev qkc:CSL:=.cons (.sif (.tru (.call 1 (.cons (.var 2) (.cons (.var 5) (.cons (.var 6) .nil))))) qkb .nil) .nil
noncomputable abbrev qkd:CSL:=.cons (.sfor (.nm 6) (.rng1 (.cons (.var 5) .nil)) qkc) .nil
noncomputable abbrev qke:CSL:=.cons (.ret (.frz (.var 4))) .nil
noncomputable abbrev qkf:CSL:=.cons (.sfor (.nm 5) (.rng1 (.cons (.var 1) .nil)) qkd) qke
noncomputable abbrev qkg:CSL:=.cons (.set 4 (.lc true 1 (.nm 0) (.rng1 (.cons (.var 1) .nil)) .yes (.bin true .Mult (.lst false (.cons (.int 0) .nil)) (.var 2)))) qkf
noncomputable abbrev qdx:CSL:=.cons (.set 3 (.ix (.lst false (.cons (.int 6) (.cons (.int 1000) (.cons (.bin false .Pow (.int 10) (.int 15)) .nil)))) (.call 0 (.cons (.var 0) (.cons (.int 3) .nil))))) qkg
noncomputable def qco:List (Str × Nat × Nat):=[("_law_take",2,1),("_law_are",3,1)]
noncomputable def qdy:List Fd:=[qx,qch]
@[simp] theorem qx7:qg qdy qco 0=qv 2 qx:=(rfl)
@[simp] theorem qx8:qg qdy qco 1=qv 3 qch:=(rfl)
noncomputable def qcp:Fd:=qbi (qw qdy qco qdx) 4
noncomputable abbrev qnu:CSL:=.cons (.set 1 (.bin false .Add (.var 1) (.lc false 1 (.nm 0) (.seq (.var 1)) .yes (.bin false .Add (.var 0) (.lst false (.cons (.var 3) .nil)))))) .nil
noncomputable abbrev qnv:CSL:=.cons (.ret (.var 1)) .nil
noncomputable abbrev qnw:CSL:=.cons (.sfor (.nm 2) (.rng1 (.cons (.var 0) .nil)) qnu) qnv
noncomputable abbrev qfp:CSL:=.cons (.set 1 (.lst false (.cons (.lst false .nil) .nil))) qnw
noncomputable def qjw:List (Str × Nat × Nat):=[]
noncomputable def qs2:List Fd:=[]
noncomputable def qdp:Fd:=qbi (qw qs2 qjw qfp) 2
theorem qwd {i j:Int} (h: -(2 ^ 64) < i) (h':i < 2 ^ 64):qez i j=true:=by
 unfold qez;rw[Bool.or_eq_true];exact .inl (decide_eq_true (.inl ⟨h,h'⟩))
theorem mul_r {i j:Int} (h: -(2 ^ 64) < j) (h':j < 2 ^ 64):qez i j=true:=by
 unfold qez;rw[Bool.or_eq_true];exact .inl (decide_eq_true (.inr ⟨h,h'⟩))
theorem qmk {l:Nat} {S:Sto} {xs:List D} {f:List D→Option (D × List D)} (h:S[l]? =some (.lst xs)):qbo (.ref l) f S=match f xs with
   | some (d,ys)=>.ok d (S.set l (.lst ys))
   | none=>.no:=by
 unfold qbo;dsimp only;rw[h] <;> rfl
theorem qdf {new:Bool} {ds:List D} (h:ds.length≤1000):mkL new ds=alloc new (.lst ds):=by unfold mkL;rw[if_pos (qbt h)]
theorem qut {ds:List D} (h:ds.length≤1000):mkT ds=M.pure (.tup ds):=by unfold mkT;rw[if_pos (qbt h)]
@[simp] theorem qacw {new:Bool}:mkL new []=alloc new (.lst []):=qdf (Nat.zero_le _)
@[simp] theorem qacx {d:D} {S:Sto}:alloc true d S=.ok (.ref S.length) (S++[d.cell]):=(rfl)
@[simp] theorem qacy {d:D} {S:Sto}:alloc false d S=.ok d S:=(rfl)
@[simp] theorem qabo {xs:List D}:D.cell (.lst xs)=.lst xs:=(rfl)
@[simp] theorem qabp {ks:List Key} {xs:List D}:D.cell (.dct ks xs)=.dct ks xs:=(rfl)
@[simp] theorem qacz {xs:List D}:mtT .append (.lst xs)=true:=(rfl)
@[simp] theorem qac0 {xs:List D}:mtT .insert (.lst xs)=true:=(rfl)
theorem qml {l:Nat} {S:Sto} {xs:List D} {d:D} (h:S[l]? =some (.lst xs)) (hz:xs.length≤1000):mtF .append (.ref l) [d] S=.ok .non (S.set l (.lst (xs++[d]))):=by
 show qbo (.ref l) (fun xs=>if decide (xs.length < sizeLine)then some (.non,xs++[d])else none) S=_
 rw[qmk h,if_pos (decide_eq_true (qbp hz))]
theorem q8o {l:Nat} {S:Sto} {xs:List D} {j:Int} {d:D} (h:S[l]? =some (.lst xs)) (hz:xs.length≤1000) (h0:0≤j) (h1:j≤xs.length):mtF .insert (.ref l) [.int j,d] S=.ok .non (S.set l (.lst (xs.take j.toNat++d::xs.drop j.toNat))):=by
 show qbo (.ref l) (fun xs=>if decide (xs.length < sizeLine) && decide (0≤j) && decide (j≤xs.length)then some (.non,xs.take j.toNat++d::xs.drop j.toNat)else none) S=_
 rw[qmk h,if_pos]
 rw[Bool.and_eq_true,Bool.and_eq_true]
 exact⟨⟨decide_eq_true (qbp hz),decide_eq_true h0⟩,decide_eq_true h1⟩
theorem qbd {j:Int} (h:qhm j=true):qdu [.int j]=M.pure (qd2 0 j.toNat,[]):=by
 unfold qdu;dsimp only;rw[if_pos h]
theorem qq {S:Sto}:q8 [] S:=fun p hp=>by simp at hp
theorem q0d {c:Cell} {S:Sto} {P:D→Sto→Prop} (hc:qdi c) (k:∀ r c',0≤r→r < 10 ^ 18→qdi c'→P (.int r) (c'::S)):Ok (qdn [.ref 0] (c::S)) P:=by
 refine Ok.run ?_
 unfold qfl
 rw[qa]
 simp
 refine qp hc (by decide) (by decide) fun r c1 h0 h1 hc1=> ?_
 rw[qa]
 simp
 refine qdw (fun h=> ?_) fun h=> ?_
 · simp [qa]
   exact qp hc1 (by decide) (by decide) fun r c1 h0 h1 hc1=>k r c1 h0 (by omega) hc1
 · rw [qa]
   simp
   refine qdw (fun h=> ?_) fun h=> ?_
   · simp [qa]
     exact qp hc1 (by decide) (by decide) fun r c1 h0 h1 hc1=>k r c1 h0 (by omega) hc1
   · rw[qa]
     simp
     rw[qa]
     simp
     rw[qbd (by decide)]
     simp
     refine qa5 (fun i Γ S'=>∃ r2 v c2,Γ=[some (.ref 0),some (.int r),some (.int r2),v]∧S'=c2::S∧qdi c2∧0≤r2∧r2 < 1000000 ^ i) ⟨0,_,c1,rfl,rfl,hc1,by decide,by decide⟩ (fun _ _ _ _=>qq) (fun i d Γ S' e h=> ?_) fun Γ S' h=> ?_
     · obtain ⟨r2,v,c2,rfl,rfl,hc2,a1,a2⟩:=h
       simp [qa,qlu (mul_r (i:=r2) (j:=1000000) (by decide) (by decide))]
       refine qp hc2 (by decide) (by decide) fun r3 c3 g0 g1 hc3=> ?_
       simp
       refine⟨hc3,by omega,?_⟩
       rw[Int.pow_succ]
       have:r2+1≤1000000 ^ i:=a2
       have:(r2+1) * 1000000≤1000000 ^ i * 1000000:=Int.mul_le_mul_of_nonneg_right this (by decide)
       omega
     · obtain ⟨r2,v,c2,rfl,rfl,hc2,a1,a2⟩:=h
       simp [qa]
       simp [qd2]at a2
       exact k r2 c2 a1 (by omega) hc2
theorem qbu:∀ ns:List Int,intsOf (ns.map D.int)=some ns
 | []=>rfl
 | n::ns=>by rw[List.map_cons,intsOf,qbu ns];rfl
theorem sum_ints {ns:List Int}:qm8 (ns.map D.int)=M.pure (.int ns.sum):=by
 unfold qm8;rw[qbu]
theorem q0e {B:Int}:∀ ns:List Int,(∀ n ∈ ns,0≤n∧n≤B)→0≤ns.sum∧ns.sum≤ns.length * B
 | [],_=>by simp
 | n::ns,h=>by
   have h1:=h n (by simp)
   have h2:=q0e ns fun x hx=>h x (by simp [hx])
   rw[List.sum_cons,List.length_cons]
   have:((ns.length+1:Nat):Int) * B=ns.length * B+B:=by rw[Int.natCast_add,Int.add_mul];simp
   rw[this]
   omega
theorem qnx {c:Cell} {S:Sto} {m:Nat} {P:D→Sto→Prop} (hc:qdi c) (hm:m≤63) (k:∀ (ns:List Int) c',ns.length=m→(∀ n ∈ ns,0≤n∧n < 10 ^ 20)→qdi c'→P (.ref (S.length+1)) (c'::(S++[.lst (ns.map D.int)]))):Ok (qbc [.ref 0,.int m] (c::S)) P:=by
 refine Ok.run ?_
 unfold qcg
 rw[qa]
 simp
 refine qp hc (by decide) (by decide) fun way c1 h0 h1 hc1=> ?_
 rw[qa]
 simp
 rw[qa]
 simp
 rw[qbd (by unfold qhm;rw[Bool.and_eq_true];exact⟨decide_eq_true (by omega),decide_eq_true (by omega)⟩)]
 simp
 refine qa5 (fun i Γ S'=>∃ (ns:List Int) (v:Option D) (c2:Cell),Γ=[some (.ref 0),some (.int m),some (.int way),some (.ref (S.length+1)),v,none]∧S'=c2::(S++[.lst (ns.map D.int)])∧qdi c2∧ns.length=i∧∀ n ∈ ns,0≤n∧n < 10 ^ 18) ⟨[],_,c1,rfl,rfl,hc1,rfl,by simp⟩ (fun _ _ _ _=>qq) (fun i d Γ S' e h=> ?_) fun Γ S' h=> ?_
 · obtain ⟨ns,v,c2,rfl,rfl,hc2,hl,hb⟩:=h
   have hi:i < m:=by have:=(List.getElem?_eq_some_iff.mp e).1;simpa [qd2]using this
   have put:∀ (r:Int) (c3:Cell),0≤r→r < 10 ^ 18→qdi c3→Ok (mtF .append (.ref (S.length+1)) [.int r] (c3::(S++[.lst (ns.map D.int)]))) fun x S1=>∃ (x:List Int) (x_1:Cell),S1=x_1::(S++[Cell.lst (x.map D.int)])∧qdi x_1∧x.length=i+1∧∀ (n:Int),n ∈ x→0≤n∧n < 10 ^ 18:=fun r c3 r0 r1 hc3=>by
     rw[qml (xs:=ns.map D.int) (by simp) (by simp;omega)]
     refine⟨ns++[r],c3,by simp,hc3,by simp [hl],fun n hn=> ?_⟩
     rcases List.mem_append.mp hn with z | z
     · exact hb n z
     · rw[List.mem_singleton.mp z];exact⟨r0,r1⟩
   simp [qa]
   refine qdw (fun h=> ?_) fun h=> ?_
   · exact qp hc2 (by decide) (by decide) fun r c3 r0 r1 hc3=>put r c3 r0 (by omega) hc3
   · refine qdw (fun h=> ?_) fun h=> ?_
     · exact q0d hc2 fun r c3 r0 r1 hc3=>put r c3 r0 r1 hc3
     · refine qp hc2 (by decide) (by decide) fun r c3 r0 r1 hc3=> ?_
       refine qp hc3 (by decide) (by decide) fun r' c4 r0' r1' hc4=> ?_
       rw[qlu (qwd (by omega) (by omega))]
       have:r * r'≤2 * 59:=Int.mul_le_mul (by omega) (by omega) r0' (by decide)
       exact put _ c4 (Int.mul_nonneg r0 r0') (by omega) hc4
 · obtain ⟨ns,v,c2,rfl,rfl,hc2,hl,hb⟩:=h
   have hl:ns.length=m:=by simpa [qd2]using hl
   have fin:∀ (v v':Option D) (ns:List Int) (c':Cell),ns.length=m→(∀ n ∈ ns,0≤n∧n < 10 ^ 20)→qdi c'→Ok (qw qbb qay (.cons (.ret (.var 3)) .nil) [some (.ref 0),some (.int m),some (.int way),some (.ref (S.length+1)),v,v'] (c'::(S++[.lst (ns.map D.int)]))) (Ret P):=fun v v' ns c' h1 h2 h3=>by
     simp [qa]
     exact k ns c' h1 h2 h3
   have low:∀ n ∈ ns,0≤n∧n < 10 ^ 20:=fun n hn=>by have:=hb n hn;omega
   rw[q4u,qa]
   simp
   refine qdw (fun h=> ?_) fun h=> ?_
   · refine qdw (fun h'=> ?_) fun h'=> ?_
     · rw[qa]
       simp
       refine qp hc2 (by omega) (by omega) fun at_ c3 a0 a1 hc3=> ?_
       obtain ⟨j,rfl⟩:=Int.eq_ofNat_of_zero_le a0
       obtain ⟨x,e1,e2⟩:=q0a (xs:=ns.map D.int) (i:=(j:Int)) a0 (by simp;omega)
       simp at e1
       obtain ⟨x',e1,rfl⟩:=e1
       rw[qa]
       simp [biF,qbs,sum_ints,e2]
       refine qp hc3 (by decide) (by decide) fun r c4 r0 r1 hc4=> ?_
       simp [qd5,maxD,qkt (show j < ns.length by omega)]
       obtain ⟨b0,b1⟩:=q0e (B:=10 ^ 18) ns fun n hn=>by have:=hb n hn;omega
       have b2:(ns.length:Int) * 10 ^ 18≤63 * 10 ^ 18:=Int.mul_le_mul_of_nonneg_right (by omega) (by decide)
       have b3:=hb x' (List.mem_of_getElem? e1)
       have:=fin v (some (.int j)) (ns.set j (if 1 < ns.sum - x'+r then ns.sum - x'+r - 1 else 0)) c4 (by simp [hl]) (fun n hn=>by
         rcases List.mem_or_eq_of_mem_set hn with z | z
         · exact low n z
         · subst z;split <;> omega) hc4
       rw[List.map_set]at this
       exact this
     · exact fin _ _ ns c2 hl low hc2
   · exact fin _ _ ns c2 hl low hc2
theorem qb5 {m n:Nat} (h:m≤n) (hn:n≤1000:=by omega):qhm (m:Int)=true:=by
 unfold qhm;rw[Bool.and_eq_true];exact⟨decide_eq_true (by omega),decide_eq_true (by omega)⟩
theorem q0f {m i:Nat} {d:D} (e:(qd2 0 m)[i]? =some d):i < m∧d=.int i:=by
 have hi:i < m:=by have:=(List.getElem?_eq_some_iff.mp e).1;simpa [qd2]using this
 simp [qd2,hi]at e
 exact⟨hi,e.symm⟩
noncomputable def Still (d:D):Prop:=∀ (n:Nat) (S:Sto),frz n d S=some (d,S)
theorem qhw {l:Nat} {S:Sto} {xs:List D} (h:S[l]? =some (.lst xs)) (hs:∀ d ∈ xs,Still d):qd3 (.ref l) S=.ok (.lst xs) (S.set l .gone):=by
 have all:∀ (xs:List D) (S:Sto),(∀ d ∈ xs,Still d)→frzs 2 xs S=some (xs,S):=by
   intro xs
   induction xs with
   | nil=>intro S _;simp [frzs]
   | cons d ds ih =>
     intro S hs
     rw[frzs,hs d (by simp) 2 S]
     dsimp only
     rw[ih S fun x hx=>hs x (by simp [hx])]
 unfold qd3
 have:frz 3 (.ref l) S=some (.lst xs,S.set l .gone):=by simp [frz,h,all xs S hs]
 rw[this]
theorem qci {i:Int}:Still (.int i):=fun n S=>by cases n <;> simp [frz]
theorem qo0 {xs:List D}:Still (.tup xs):=fun n S=>by cases n <;> simp [frz]
@[simp] theorem q3n {l:Nat} {S:Sto} {xs:List D} (h:S[l]? =some (.lst xs)):biF .len [.ref l] S=.ok (.int xs.length) S:=by
 show qr1 [.ref l] S=_
 unfold qr1
 dsimp only
 rw[qh h]
 rfl
noncomputable def qb6 (p:Nat × Nat):D:=.tup [.int p.1,.int p.2]
noncomputable def qs3 (m:Nat) (ts:List (Nat × Nat)):Prop:=∀ p ∈ ts,p.1 < m∧p.2 < m∧p.1 ≠ p.2
theorem qs4 {c:Cell} {S:Sto} {m:Nat} {P:D→Sto→Prop} (hc:qdi c) (hm:m≤20) (k:∀ (ts:List (Nat × Nat)) c' T,qs3 m ts→ts.length≤401→qdi c'→P (.lst (ts.map qb6)) (c'::(S++T))):Ok (qb2 [.ref 0,.int m] (c::S)) P:=by
 refine Ok.run ?_
 unfold qdb
 rw[qa]
 simp
 refine qdw (fun h=> ?_) fun h=> ?_
 · simp [qa]
   have:=k [] c [] (fun p hp=>by simp at hp) (by simp) hc
   simpa using this
 · ((try simp);rw[qa];try simp)
   ((try simp);rw[qa];try simp)
   refine qp hc (by decide) (by decide) fun sh c1 s0 s1 hc1=> ?_
   ((try simp);rw[qa];try simp)
   rw[qbd (qb5 hm)]
   simp
   refine qa5 (fun i Γ S'=>∃ (ts:List (Nat × Nat)) (v v':Option D) (c2:Cell),Γ=[some (.ref 0),some (.int m),some (.ref (S.length+1)),some (.int (1+sh)),v,v',none]∧S'=c2::(S++[.lst (ts.map qb6)])∧qdi c2∧qs3 m ts∧ts.length≤i * 20) ⟨[],_,_,c1,rfl,rfl,hc1,fun p hp=>by simp at hp,by simp⟩ (fun _ _ _ _=>qq) (fun i d Γ S' e h=> ?_) fun Γ S' h=> ?_
   · obtain ⟨ts,v,v',c2,rfl,rfl,hc2,ht,hl⟩:=h
     obtain ⟨hi,rfl⟩:=q0f e
     simp [qa]
     rw[qbd (qb5 (show i≤20 by omega))]
     simp
     refine qa5 (fun j Γ S'=>∃ (ts:List (Nat × Nat)) (v':Option D) (c2:Cell),Γ=[some (.ref 0),some (.int m),some (.ref (S.length+1)),some (.int (1+sh)),some (.int i),v',none]∧S'=c2::(S++[.lst (ts.map qb6)])∧qdi c2∧qs3 m ts∧ts.length≤i * 20+j) ⟨ts,v',c2,rfl,rfl,hc2,ht,hl⟩ (fun _ _ _ _=>qq) (fun j d Γ S' e h=> ?_) fun Γ S' h=> ?_
     · obtain ⟨ts,v',c2,rfl,rfl,hc2,ht,hl⟩:=h
       obtain ⟨hj,rfl⟩:=q0f e
       simp [qa]
       refine qp hc2 (by decide) (by decide) fun r c3 r0 r1 hc3=> ?_
       simp
       refine qdw (fun h=> ?_) fun h=> ?_
       · refine qp hc3 (by omega) (by omega) fun at_ c4 a0 a1 hc4=> ?_
         simp [qut,qdf]
         refine qp hc4 (by omega) (by omega) fun w c5 w0 w1 hc5=> ?_
         obtain ⟨q,e1,e2,e3,e4⟩:∃ q:Nat × Nat,atI [D.tup [.int i,.int j],.tup [.int j,.int i]] w=some (qb6 q)∧q.1 < m∧q.2 < m∧q.1 ≠ q.2:=by
           have:w=0∨w=1:=by omega
           rcases this with rfl | rfl
           · exact⟨(i,j),by simp [qb6],hi,by omega,by show i ≠ j;omega⟩
           · exact⟨(j,i),by simp [qb6],by omega,hi,by show j ≠ i;omega⟩
         simp [e1]
         rw[q8o (xs:=ts.map qb6) (by simp) (by simp;omega) a0 (by simp;omega)]
         simp
         refine⟨ts.take at_.toNat++q::ts.drop at_.toNat,c5,⟨rfl,by simp⟩,hc5,fun p hp=> ?_,by simp;omega⟩
         rcases List.mem_append.mp hp with z | z
         · exact ht p (List.mem_of_mem_take z)
         · rcases List.mem_cons.mp z with rfl | z
           · exact⟨e2,e3,e4⟩
           · exact ht p (List.mem_of_mem_drop z)
       · exact⟨ts,c3,⟨rfl,rfl⟩,hc3,ht,by omega⟩
     · obtain ⟨ts,v',c2,rfl,rfl,hc2,ht,hl⟩:=h
       simp
       simp [qd2]at hl
       exact⟨ts,c2,⟨rfl,rfl⟩,hc2,ht,by omega⟩
   · obtain ⟨ts,v,v',c2,rfl,rfl,hc2,ht,hl⟩:=h
     have hl:ts.length≤400:=by simp [qd2]at hl;omega
     have fin:∀ (v v' v6:Option D) (ts:List (Nat × Nat)) (c':Cell),ts.length≤401→qs3 m ts→qdi c'→Ok (qw qdc qb1 (.cons (.ret (.frz (.var 2))) .nil) [some (.ref 0),some (.int m),some (.ref (S.length+1)),some (.int (1+sh)),v,v',v6] (c'::(S++[.lst (ts.map qb6)]))) (Ret P):=fun v v' v6 ts c' h1 h2 h3=>by
       simp [qa]
       rw[qhw (xs:=ts.map qb6) (by simp) (fun d hd=> ?_)]
       · simp
         exact k ts c' [.gone] h2 h1 h3
       · obtain ⟨p,_,rfl⟩:=List.mem_map.mp hd
         exact qo0
     ((try simp);rw[qa];try simp)
     refine qdw (fun h=> ?_) fun h=> ?_
     · refine qp hc2 (by decide) (by decide) fun r c3 r0 r1 hc3=> ?_
       simp
       refine qdw (fun h=> ?_) fun h=> ?_
       · ((try simp);rw[qa];try simp)
         refine qp hc3 (by omega) (by omega) fun at_ c4 a0 a1 hc4=> ?_
         obtain ⟨j,rfl⟩:=Int.eq_ofNat_of_zero_le a0
         have hj:j < ts.length:=by omega
         have e2:atI (ts.map qb6) (j:Int)=some (qb6 ts[j]):=qfx (by simp [hj])
         have hq:=ht _ (List.getElem_mem hj)
         generalize ts[j]=q at *
         simp [e2,qb6]
         ((try simp);rw[qa];try simp)
         simp [qut,qdf]
         refine qp hc4 (by omega) (by omega) fun w c5 w0 w1 hc5=> ?_
         obtain ⟨q',e1,e2⟩:∃ q':Nat × Nat,atI [D.tup [.int q.1,.int q.2],.tup [.int q.2,.int q.1]] w=some (qb6 q')∧q'.1 < m∧q'.2 < m∧q'.1 ≠ q'.2:=by
           have:w=0∨w=1:=by omega
           rcases this with rfl | rfl
           · exact⟨q,by simp [qb6],hq⟩
           · exact⟨(q.2,q.1),by simp [qb6],hq.2.1,hq.1,Ne.symm hq.2.2⟩
         simp [e1]
         rw[qml (xs:=ts.map qb6) (by simp) (by simp;omega)]
         simp
         have:=fin v v' (some (.tup [.int q.1,.int q.2])) (ts++[q']) c5 (by simp;omega) (fun p hp=>by
           rcases List.mem_append.mp hp with z | z
           · exact ht p z
           · rw[List.mem_singleton.mp z];exact e2) hc5
         simpa using this
       · exact fin _ _ _ ts c3 (by omega) ht hc3
     · exact fin _ _ _ ts c2 (by omega) ht hc2
noncomputable def vec {α:Type} (n:Nat) (g:Nat→α):List α:=(List.range n).map g
section
variable {α β:Type} {n:Nat} {g:Nat→α}
@[simp] theorem qbm:(vec n g).length=n:=by simp [vec]
theorem qdq {i:Nat}:(vec n g)[i]? =if i < n then some (g i)else none:=by
 unfold vec;by_cases h:i < n <;> simp [h]
theorem qg4 {i:Nat} {a:α} (h:(vec n g)[i]? =some a):i < n∧a=g i:=by
 rw[qdq]at h;split at h
 · exact⟨by assumption,(Option.some.inj h).symm⟩
 · cases h
theorem qfq {i:Nat} (h:i < n):(vec n g)[i]? =some (g i):=by rw[qdq,if_pos h]
theorem qbe {i:Nat} (h:i < n):atI (vec n g) (i:Int)=some (g i):=qfx (qfq h)
theorem qqb {f:α→β}:(vec n g).map f=vec n fun i=>f (g i):=by simp [vec,Function.comp_def]
theorem qqc {f:Nat→α} (h:∀ i < n,f i=g i):vec n f=vec n g:=by
 unfold vec;exact List.map_congr_left fun i hi=>h i (List.mem_range.mp hi)
theorem qqd {i:Nat} {a:α}:(vec n g).set i a=vec n fun k=>if k=i then a else g k:=by
 refine List.ext_getElem? fun k=> ?_
 rw[List.getElem?_set,qdq,qdq]
 by_cases hk:i=k
 · subst hk
   by_cases h:i < n <;> simp [h]
 · simp [hk,Ne.symm hk]
theorem qwe {a:α} (h:a ∈ vec n g):∃ i < n,a=g i:=by
 simp [vec]at h;obtain ⟨i,hi,e⟩:=h;exact⟨i,hi,e.symm⟩
theorem qb7:vec (n+1) g=vec n g++[g n]:=by simp [vec,List.range_succ]
theorem qfr {g:Nat→D}:qfh (vec n g)=vec n fun i=>.tup [.int i,g i]:=by
 refine List.ext_getElem? fun k=> ?_
 rw[qdq]
 by_cases h:k < n
 · rw[if_pos h,qr5 (qfq h)]
 · rw[if_neg h,List.getElem?_eq_none_iff,qil,qbm];omega
theorem qcz:qd2 0 n=vec n fun i=>.int i:=by simp [qd2,vec]
theorem qwf {a:α}:List.replicate n a=vec n fun _=>a:=by
 refine List.ext_getElem? fun k=> ?_
 rw[qdq,List.getElem?_replicate]
theorem qmm (xs:List α) (d:α):xs=vec xs.length fun i=>xs.getD i d:=by
 refine List.ext_getElem? fun k=> ?_
 rw[qdq]
 by_cases h:k < xs.length
 · rw[if_pos h];simp [h]
 · rw[if_neg h];simp;omega
end
theorem qmn {S S':Sto} (hl:S.length≤S'.length) (h:∀ k < S.length,S'[k]? =S[k]?):∃ T,S'=S++T:=by
 refine⟨S'.drop S.length,List.ext_getElem? fun k=> ?_⟩
 by_cases hk:k < S.length
 · rw[List.getElem?_append_left hk];exact h k hk
 · rw[List.getElem?_append_right (by omega),List.getElem?_drop]
   congr 1;omega
structure Mat (S:Sto) (l b n m:Nat) (f:Nat→Nat→D):Prop where
 top:S[l]? =some (.lst (vec n fun i=>.ref (b+i)))
 row:∀ i < n,S[b+i]? =some (.lst (vec m (f i)))
 out:l < b∨b+n≤l
theorem Mat.set {S:Sto} {l b n m:Nat} {f:Nat→Nat→D} (h:Mat S l b n m f) {i j:Nat} (hi:i < n) (v:D):Mat (S.set (b+i) (.lst ((vec m (f i)).set j v))) l b n m fun i' j'=>if i'=i∧j'=j then v else f i' j':=by
 refine⟨?_,fun k hk=> ?_,h.out⟩
 · rw[List.getElem?_set_ne (by have:=h.out;omega)];exact h.top
 · by_cases hki:k=i
   · subst hki
     have hl:b+k < S.length:=(List.getElem?_eq_some_iff.mp (h.row k hk)).1
     rw[List.getElem?_set,if_pos rfl,if_pos hl,qqd]
     simp
   · rw[List.getElem?_set_ne (by omega),h.row k hk]
     simp [hki]
theorem qo1 {n:Nat} {d e:D} {S2:Sto}:∀ {xs ys:List D} {S S1:Sto},frzs n xs S=some (ys,S1)→frz n d S1=some (e,S2)→frzs n (xs++[d]) S=some (ys++[e],S2)
 | [],ys,S,S1,h,k=>by
   simp only [frzs,Option.some.injEq,Prod.mk.injEq]at h
   obtain ⟨rfl,rfl⟩:=h
   simp [frzs,k]
 | x ::xs,ys,S,S1,h,k=>by
   rw[frzs]at h
   rw[List.cons_append,frzs]
   cases e1:frz n x S with
   | none=>rw[e1]at h;cases h
   | some r =>
     obtain ⟨y,S3⟩:=r
     rw[e1]at h
     dsimp only at h ⊢
     cases e2:frzs n xs S3 with
     | none=>rw[e2]at h;cases h
     | some r =>
       obtain ⟨zs,S4⟩:=r
       rw[e2]at h
       cases h
       rw[qo1 e2 k]
       rfl
theorem qku {S:Sto} {l b n m:Nat} {f:Nat→Nat→D} (h:Mat S l b n m f) (hs:∀ i j,Still (f i j)):∃ S',qd3 (.ref l) S=.ok (.lst (vec n fun i=>.lst (vec m (f i)))) S'∧S'.length=S.length∧∀ k,k ≠ l→(k < b∨b+n≤k)→S'[k]? =S[k]? :=by
 have row:∀ (xs:List D) (S:Sto),(∀ d ∈ xs,Still d)→frzs 1 xs S=some (xs,S):=by
   intro xs
   induction xs with
   | nil=>intro S _;simp [frzs]
   | cons d ds ih =>
     intro S hs
     rw[frzs,hs d (by simp) 1 S]
     dsimp only
     rw[ih S fun x hx=>hs x (by simp [hx])]
 have all:∀ (k:Nat) (S:Sto),k≤n→(∀ i < k,S[b+i]? =some (.lst (vec m (f i))))→∃ S',frzs 2 (vec k fun i=>.ref (b+i)) S=some (vec k fun i=>.lst (vec m (f i)),S')∧S'.length=S.length∧∀ j,(j < b∨b+k≤j)→S'[j]? =S[j]? :=by
   intro k
   induction k with
   | zero=>intro S _ _;exact⟨S,by simp [vec,frzs],rfl,fun _ _=>rfl⟩
   | succ k ih =>
     intro S hk hr
     obtain ⟨S1,e1,e2,e3⟩:=ih S (by omega) fun i hi=>hr i (by omega)
     have e4:S1[b+k]? =some (.lst (vec m (f k))):=by rw[e3 _ (.inr (Nat.le_refl _))];exact hr k (by omega)
     have e5:frz 2 (.ref (b+k)) S1=some (.lst (vec m (f k)),S1.set (b+k) .gone):=by
       simp [frz,e4,row (vec m (f k)) S1 fun d hd=>by obtain ⟨j,_,rfl⟩:=qwe hd;exact hs k j]
     refine⟨S1.set (b+k) .gone,by rw[qb7,qb7];exact qo1 e1 e5,by simp [e2],fun j hj=> ?_⟩
     rw[List.getElem?_set_ne (by omega)]
     exact e3 j (by omega)
 obtain ⟨S1,e1,e2,e3⟩:=all n S (Nat.le_refl _) h.row
 refine⟨S1.set l .gone,?_,by simp [e2],fun k hk hb=>by rw[List.getElem?_set_ne (Ne.symm hk)];exact e3 k hb⟩
 unfold qd3
 have:frz 3 (.ref l) S=some (.lst (vec n fun i=>.lst (vec m (f i))),S1.set l .gone):=by simp [frz,h.top,e1]
 rw[this]
theorem quu {Φ:List Fd} {fn:List (Str × Nat × Nat)} {Γ:Env} {S:Sto} {src:Src} {n m:Nat} {ds:List D} {x:D} {hd:D→Env→M Env} {cond:Env→M Bool} {elt:Env→M D} {k:Nat} {Q:List D→Sto→Prop} (hn:ds.length=n) (hs:∀ T,q8 src (S++T))
   (step:∀ d ∈ ds,∀ T,Ok (hd d (List.replicate k none++Γ) (S++T)) fun Γ1 S1=>Ok (cond Γ1 S1) fun b S2=>b=true∧Ok (elt Γ1 S2) fun y S3=>y=.ref (S++T).length∧S3=S++T++[.lst (vec m fun _=>x)])
   (fin:Q (vec n fun i=>.ref (S.length+i)) (S++vec n fun _=>.lst (vec m fun _=>x))):Ok (lcA src k hd cond elt Γ [] ds S) Q:=by
 subst hn
 refine qlx (fun i a S'=>a=(vec i fun i=>.ref (S.length+i))∧S'=S++vec i fun _=>.lst (vec m fun _=>x)) ⟨rfl,by simp [vec]⟩ (fun i a S' h=>h.2 ▸ hs _) (fun i d a S' e h=> ?_) fun a S' h=> ?_
 · obtain ⟨rfl,rfl⟩:=h
   refine(step d (List.mem_of_getElem? e) _).mono fun Γ1 S1 q=>q.mono fun b S2 q=> ?_
   obtain ⟨rfl,q⟩:=q
   rw[if_pos rfl]
   refine q.mono fun y S3 q=> ?_
   obtain ⟨rfl,rfl⟩:=q
   exact⟨by rw[qb7];simp,by rw[qb7];simp⟩
 · obtain ⟨rfl,rfl⟩:=h
   exact fin
theorem qwg {S T:Sto} {n m:Nat} {x:D} (hT:T=[.lst (vec n fun i=>.ref (S.length+i))]):Mat (S++(vec n fun _=>Cell.lst (vec m fun _=>x))++T) (S.length+n) S.length n m fun _ _=>x:=by
 subst hT
 refine⟨?_,fun i hi=> ?_,.inr (Nat.le_refl _)⟩
 · rw[List.getElem?_append_right (by simp)];simp
 · rw[List.getElem?_append_left (by simp;omega),List.getElem?_append_right (by omega)]
   simp [qfq hi]
section
variable {S:Sto} {l b n m:Nat} {f:Nat→Nat→D}
theorem Mat.ix (h:Mat S l b n m f) {i:Nat} (hi:i < n):ixM (look (.ref l) S) (.int i) S=.ok (.ref (b+i)) S:=by
 rw[qh h.top,qlv,qbe hi]
theorem Mat.get (h:Mat S l b n m f) {i j:Nat} (hi:i < n) (hj:j < m):ixM (look (.ref (b+i)) S) (.int j) S=.ok (f i j) S:=by
 rw[qh (h.row i hi),qlv,qbe hj]
theorem Mat.put (h:Mat S l b n m f) {i j:Nat} (hi:i < n) (hj:j < m) {v:D}:setM (.ref (b+i)) (.int j) v S=.ok () (S.set (b+i) (.lst ((vec m (f i)).set j v))) :=
 qp3 (h.row i hi) (by rw[qbm];exact qkt hj)
theorem Mat.cong (h:Mat S l b n m f) {g:Nat→Nat→D} (e:∀ i j,i < n→j < m→f i j=g i j):Mat S l b n m g :=
 ⟨h.top,fun i hi=>by rw[h.row i hi,qqc fun j hj=>e i j hi hj],h.out⟩
theorem Mat.keep (h:Mat S l b n m f) {S':Sto} (e:∀ k,(k=l∨(b≤k∧k < b+n))→S'[k]? =S[k]?):Mat S' l b n m f :=
 ⟨by rw[e l (.inl rfl)];exact h.top,fun i hi=>by rw[e _ (.inr ⟨by omega,by omega⟩)];exact h.row i hi,h.out⟩
theorem q0g {b:Bool}:Still (.bl b):=fun n S=>by cases n <;> simp [frz]
end
noncomputable def qak (ts:Option (List (Nat × Nat))) (i j:Nat):Bool:=match ts with
 | none=>i != j
 | some l=>l.any fun p=>(p.1==i && p.2==j) || (p.1==j && p.2==i)
noncomputable def qaa:Option (List (Nat × Nat))→D
 | none=>.non
 | some l=>.lst (l.map qb6)
noncomputable def qny (n:Nat) (t:Nat→Nat→Bool):D:=.lst (vec n fun i=>.lst (vec n fun j=>.bl (t i j)))
noncomputable def qep (n:Nat):Option (List (Nat × Nat))→Prop
 | none=>True
 | some l=>qs3 n l∧l.length≤900
theorem qt {n:Nat} (h:n≤1000):n < sizeLine:=qbp h
@[simp] theorem c_is {S:Sto}:qa6 .Is .non .non S=.ok (.bl true) S:=(rfl)
@[simp] theorem qafy {S:Sto} {xs:List D}:qa6 .Is (.lst xs) .non S=.ok (.bl false) S:=(rfl)
@[simp] theorem qafz {S:Sto} {i:Int}:qa6 .Is (.int i) .non S=.ok (.bl false) S:=(rfl)
@[simp] theorem qaf0 {S:Sto}:qa6 .IsNot .non .non S=.ok (.bl false) S:=(rfl)
@[simp] theorem qaex {S:Sto} {i:Int}:qa6 .IsNot (.int i) .non S=.ok (.bl true) S:=(rfl)
theorem qqe {S:Sto} {x:D} {n:Nat} (h:n≤1000):qf8 true .Mult (.lst [x]) (.int n) S=.ok (.ref S.length) (S++[.lst (vec n fun _=>x)]):=by
 have e:(decide ((n:Int) < 2 ^ 63) && decide (-(2 ^ 63)≤(n:Int)) && sizeOk ([x].length * (n:Int).toNat))=true:=by
   rw[Bool.and_eq_true,Bool.and_eq_true]
   exact⟨⟨decide_eq_true (by omega),decide_eq_true (by omega)⟩,qbt (by simp;omega)⟩
 have e2:(List.replicate (n:Int).toNat [x]).flatten=vec n fun _=>x:=by rw[← qwf];simp
 simp only [qf8,seen,qxl,look]
 rw[if_pos e,e2]
 rfl
theorem qf5 {Γ:Env} {S:Sto} {src:Src} {n k:Nat} {it g:Nat→D} {hd:D→Env→M Env} {cond:Env→M Bool} {elt:Env→M D} {Q:List D→Sto→Prop} (hs:q8 src S)
   (step:∀ i < n,Ok (hd (it i) (List.replicate k none++Γ) S) fun Γ1 S1=>Ok (cond Γ1 S1) fun b S2=>b=true∧Ok (elt Γ1 S2) fun y S3=>y=g i∧S3=S) (fin:Q (vec n g) S):Ok (lcA src k hd cond elt Γ [] (vec n it) S) Q:=by
 refine qlx (fun i a S'=>a=vec i g∧S'=S) ⟨rfl,rfl⟩ (fun i a S' h=>h.2 ▸ hs) (fun i d a S' e h=> ?_) fun a S' h=> ?_
 · obtain ⟨rfl,rfl⟩:=h
   obtain ⟨hi,rfl⟩:=qg4 e
   refine(step i hi).mono fun Γ1 S1 q=>q.mono fun b S2 q=> ?_
   obtain ⟨rfl,q⟩:=q
   rw[if_pos rfl]
   refine q.mono fun y S3 q=> ?_
   obtain ⟨rfl,rfl⟩:=q
   exact⟨by rw[qb7],rfl⟩
 · obtain ⟨rfl,rfl⟩:=h
   rw[qbm]
   exact fin
theorem qhx {S:Sto} {n:Nat} {ts:Option (List (Nat × Nat))} {P:D→Sto→Prop} (hn:n≤100) (ht:qep n ts) (k:∀ T,P (qny n (qak ts)) (S++T)):Ok (qa7 [qaa ts,.int n] S) P:=by
 refine Ok.run ?_
 unfold qfk
 cases ts with
 | none =>
   ((try simp);rw[qa];try simp)
   simp [qa,qaa]
   rw[qbd (qb5 hn),qcz]
   simp
   refine⟨qt (by omega),qf5 (g:=fun i=>.lst (vec n fun j=>.bl (i != j))) qq (fun i hi=> ?_) ?_⟩
   · simp
     rw[qbd (qb5 hn),qcz]
     simp
     refine⟨qt (by omega),qf5 (g:=fun j=>.bl (i != j)) qq (fun j hj=> ?_) ⟨rfl,rfl⟩⟩
     simp
     rw[Bool.eq_iff_iff];simp;omega
   · have:=k []
     simpa [qny,qak]using this
 | some l =>
   simp only [qaa]
   ((try simp);rw[qa];try simp)
   ((try simp);rw[qa];try simp)
   rw[qbd (qb5 hn),qcz]
   simp
   refine⟨qt (by omega),quu (Φ:=[]) (fn:=[]) (n:=n) (m:=n) (x:=.bl false) (by simp) (fun _=>qq) (fun d hd T=> ?_) ?_⟩
   · simp [qdf,qqe (show n≤1000 by omega)]
   · ((try simp);rw[qa];try simp)
     simp [qm]
     have h0:=qwg (S:=S) (n:=n) (m:=n) (x:=.bl false) rfl
     rw[← List.append_assoc]
     generalize hS:S++(vec n fun _=>Cell.lst (vec n fun _=>D.bl false))++[Cell.lst (vec n fun i=>.ref (S.length+i))]=S2 at h0 ⊢
     have hl2:S.length≤S2.length:=by rw[← hS];simp
     have hk2:∀ q < S.length,S2[q]? =S[q]? :=fun q hq=>by rw[← hS,List.append_assoc,List.getElem?_append_left hq]
     clear hS
     refine qa5 (fun r Γ S'=>∃ (v v':Option D),Γ=[some (.lst (l.map qb6)),some (.int n),some (.ref (S.length+n)),v,v']∧Mat S' (S.length+n) S.length n n (fun i j=>.bl (qak (some (l.take r)) i j))∧S.length≤S'.length∧∀ q < S.length,S'[q]? =S[q]?) ⟨_,_,rfl,by simpa [qak]using h0,hl2,hk2⟩ (fun _ _ _ _=>qq) (fun r d Γ S' e h=> ?_) fun Γ S' h=> ?_
     · obtain ⟨v,v',rfl,hM,hl,hk⟩:=h
       rw[List.getElem?_map]at e
       cases e1:l[r]? with
       | none=>rw[e1]at e;cases e
       | some p =>
         rw[e1]at e
         cases e
         obtain ⟨h1,h2,h3⟩:=ht.1 p (List.mem_of_getElem? e1)
         obtain ⟨i,j⟩:=p
         simp only [qb6]at *
         ((try simp);rw[qa];try simp)
         rw[hM.ix h1]
         simp
         rw[hM.put h1 h2]
         have hM1:=hM.set (j:=j) h1 (.bl true)
         ((try simp);rw[qa];try simp)
         rw[hM1.ix h2]
         simp
         rw[hM1.put h2 h1]
         have hM2:=hM1.set (j:=i) h2 (.bl true)
         simp
         refine⟨?_,by simpa using hl,fun q hq=> ?_⟩
         · refine hM2.cong fun a b _ _=> ?_
           have ht:l.take (r+1)=l.take r++[(i,j)]:=by rw[List.take_succ,e1];rfl
           simp only [qak,ht,List.any_append,List.any_cons,List.any_nil]
           by_cases q1:a=j∧b=i
           · obtain ⟨rfl,rfl⟩:=q1;simp
           · by_cases q2:a=i∧b=j
             · obtain ⟨rfl,rfl⟩:=q2;simp
             · rw[if_neg q1,if_neg q2]
               have:(i==a && j==b || i==b && j==a)=false:=by
                 rw[Bool.or_eq_false_iff,Bool.and_eq_false_iff,Bool.and_eq_false_iff];simp;omega
               simp [this]
         · rw[List.getElem?_set_ne (by omega),List.getElem?_set_ne (by omega)]
           exact hk q hq
     · obtain ⟨v,v',rfl,hM,hl,hk⟩:=h
       rw[List.length_map,List.take_length]at hM
       obtain ⟨S3,e1,e2,e3⟩:=qku hM fun i j=>q0g
       simp [qa,e1]
       obtain ⟨T,rfl⟩:=qmn (S:=S) (S':=S3) (by omega) fun q hq=>by rw[e3 q (by omega) (.inl hq)];exact hk q hq
       exact k T
noncomputable def qfs:Option Nat→D
 | none=>.non
 | some g=>.int g
noncomputable abbrev DL:=List (Nat × Option Nat)
noncomputable def ky (L:DL):List Nat:=L.map (·.1)
noncomputable def dks (L:DL):List Key:=L.map fun p=>.inl (p.1:Int)
noncomputable def dvs (L:DL):List D:=L.map fun p=>qfs p.2
noncomputable def qaq (L:DL):Cell:=.dct (dks L) (dvs L)
noncomputable def qbj (L:DL):D:=.dct (dks L) (dvs L)
theorem quv {L:DL} {t:Nat}:qfb (dks L) (.inl (t:Int))=decide (t ∈ ky L):=by
 unfold qfb dks ky
 rw[Bool.eq_iff_iff]
 simp only [List.any_map,List.any_eq_true,Function.comp_apply,decide_eq_true_eq,List.mem_map]
 constructor
 · rintro ⟨p,h,e⟩;exact⟨p,h,by have:=Sum.inl.inj e;omega⟩
 · rintro ⟨p,h,e⟩;exact⟨p,h,by rw[e]⟩
theorem qwh {L:DL} {t:Nat} {S:Sto} {l:Nat} (h:S[l]? =some (qaq L)):qa6 .NotIn (.int t) (.ref l) S=.ok (.bl (decide (t ∉ ky L))) S:=by
 show inM true (.int t) (look (.ref l) S) S=_
 rw[qhn h]
 show Out.ok (D.bl (true != qfb (dks L) (.inl (t:Int)))) S=_
 rw[quv]
 by_cases e:t ∈ ky L <;> simp [e]
theorem qabq {L:DL} {t:Nat} {o:Option Nat} {S:Sto} {l:Nat} (h:S[l]? =some (qaq L)) (hz:L.length≤1000) (hn:t ∉ ky L):setM (.ref l) (.int t) (qfs o) S=.ok () (S.set l (qaq (L++[(t,o)]))):=by
 rw[qd5,h]
 have hk:qfb (dks L) (.inl (t:Int))=false:=by rw[quv];simpa using hn
 show (if (dks L).length < sizeLine then _ else _)=_
 rw[if_pos (by simpa [dks]using qbp hz)]
 simp only [qbg,qax,hk]
 simp [qaq,dks,dvs]
theorem qaz {L N:DL}:ky (L++N)=ky L++ky N:=by simp [ky]
noncomputable def qdg (ws:List Nat):D:=.lst (ws.map fun w:Nat=>D.int (w:Int))
theorem q0h {S:Sto} {l:Nat} {c:Cell} (h:S[l]? =some c):S.set l c=S:=by
 obtain ⟨hl,rfl⟩:=List.getElem?_eq_some_iff.mp h
 exact List.set_getElem_self hl
structure qjc (n:Nat) (rel:Nat→Nat→Bool) (ws:List Nat) (L N:DL):Prop where
 nd:(ky (L++N)).Nodup
 lt:∀ t ∈ ky N,t < n
 from_:∀ p ∈ N,∃ g ∈ ws,p.2=some g∧rel g p.1=true
theorem qjc.add {n:Nat} {rel:Nat→Nat→Bool} {ws:List Nat} {L N:DL} (h:qjc n rel ws L N) {t g:Nat} (ht:t < n) (hg:g ∈ ws) (hr:rel g t=true) (hn:t ∉ ky (L++N)):qjc n rel ws L (N++[(t,some g)]):=by
 refine⟨?_,fun x hx=> ?_,fun p hp=> ?_⟩
 · rw[← List.append_assoc,qaz,List.nodup_append]
   exact⟨h.nd,by simp [ky],fun a ha b hb=>by simp [ky]at hb;subst hb;rintro rfl;exact hn ha⟩
 · rw[qaz]at hx
   rcases List.mem_append.mp hx with z | z
   · exact h.lt x z
   · simp [ky]at z;omega
 · rcases List.mem_append.mp hp with z | z
   · exact h.from_ p z
   · rw[List.mem_singleton.mp z];exact⟨g,hg,rfl,hr⟩
theorem qcj:∀ {n:Nat} {xs:List Nat},xs.Nodup→(∀ x ∈ xs,x < n)→xs.length≤n
 | 0,xs,_,h=>by
   cases xs with
   | nil=>simp
   | cons x xs=>exact absurd (h x (by simp)) (by omega)
 | n +1,xs,hd,h=>by
   have h1:(xs.erase n).Nodup:=hd.erase n
   have h2:=qcj (n:=n) h1 fun x hx=>by
     have:=h x (List.mem_of_mem_erase hx)
     have:x ≠ n:=fun e=>by subst e;exact(List.Nodup.not_mem_erase hd) hx
     omega
   have:=List.length_erase_le (a:=n) (l:=xs)
   by_cases hm:n ∈ xs
   · have:=List.length_erase_of_mem hm;omega
   · rw[List.erase_of_not_mem hm]at h2;omega
theorem qjc.len {n:Nat} {rel:Nat→Nat→Bool} {ws:List Nat} {L N:DL} (h:qjc n rel ws L N):N.length≤n:=by
 have:=h.nd
 rw[qaz,List.nodup_append]at this
 have:=qcj this.2.1 h.lt
 simpa [ky]using this
noncomputable def stF (S:Sto) (lt:Nat) (L N:DL):Sto:=S.set lt (qaq (L++N))++[.lst ((ky N).map fun w:Nat=>D.int (w:Int))]
section
variable {n lt:Nat} {S:Sto} {L N:DL} {ws:List Nat} {P:D→Sto→Prop}
theorem q0i (hlt:lt < S.length):(stF S lt L N)[lt]? =some (qaq (L++N)):=by
 unfold stF
 rw[List.getElem?_append_left (by simpa using hlt),List.getElem?_set,if_pos rfl,if_pos hlt]
theorem q4v:(stF S lt L N)[S.length]? =some (.lst ((ky N).map fun w:Nat=>D.int (w:Int))):=by
 unfold stF
 rw[List.getElem?_append_right (by simp)];simp
theorem qabr {q:Nat} (hq:q < S.length) (h:q ≠ lt):(stF S lt L N)[q]? =S[q]? :=by
 unfold stF
 rw[List.getElem?_append_left (by simpa using hq),List.getElem?_set_ne (Ne.symm h)]
theorem q4w (hL:S[lt]? =some (qaq L)):stF S lt L []=S++[.lst []]:=by
 unfold stF
 rw[show L++[]=L by simp,q0h hL];rfl
theorem qs5 {j g:Nat} (hlt:lt < S.length) (hn:j ∉ ky (L++N)) (hz:L.length+N.length≤900) (q:P .non (stF S lt L (N++[(j,some g)]))) :
   Ok (setM (.ref lt) (.int j) (.int g) (stF S lt L N)) fun _ S3=>mtT .append (look (.ref S.length) S3)=true∧Ok (mtF .append (.ref S.length) [.int j] S3) P:=by
 have:setM (.ref lt) (.int j) (.int g) (stF S lt L N)=_:=qabq (o:=some g) (q0i hlt) (by simp;omega) hn
 rw[this]
 have e:((stF S lt L N).set lt (qaq (L++N++[(j,some g)])))[S.length]? =some (.lst ((ky N).map fun w:Nat=>D.int (w:Int))):=by
   rw[List.getElem?_set_ne (by omega)];exact q4v
 refine⟨by rw[qh e];rfl,?_⟩
 rw[qml e (by simp [ky];omega)]
 show P .non _
 have:((stF S lt L N).set lt (qaq (L++N++[(j,some g)]))).set S.length (.lst ((ky N).map (fun w:Nat=>D.int (w:Int))++[.int j]))=stF S lt L (N++[(j,some g)]):=by
   unfold stF
   rw[List.set_append_left _ _ (by simpa using hlt),List.set_set,List.set_append_right _ _ (by simp)]
   simp [ky]
 rw[this]
 exact q
theorem qs6 (h:∀ T,P (qdg (ky N)) (S.set lt (qaq (L++N))++[T])):Ok (qd3 (.ref S.length) (stF S lt L N)) P:=by
 rw[qhw q4v (fun d hd=>by obtain ⟨p,_,rfl⟩:=List.mem_map.mp hd;exact qci)]
 show P _ _
 have:(stF S lt L N).set S.length .gone=S.set lt (qaq (L++N))++[.gone]:=by
   unfold stF
   rw[List.set_append_right _ _ (by simp)]
   simp
 rw[this]
 exact h _
theorem qnz {t:Nat→Nat→Bool} (hn:n≤100) (hL:S[lt]? =some (qaq L)) (hll:L.length≤n) (hnd:(ky L).Nodup) (hw:∀ g ∈ ws,g < n)
   (k:∀ N T,qjc n t ws L N→(∀ g ∈ ws,∀ j < n,t g j=true→j ∈ ky (L++N))→P (qdg (ky N)) (S.set lt (qaq (L++N))++[T])):Ok (qbx [qdg ws,.ref lt,qny n t] S) P:=by
 refine Ok.run ?_
 unfold qej
 have hlt:lt < S.length:=(List.getElem?_eq_some_iff.mp hL).1
 ((try simp);rw[qa];try simp)
 ((try simp);rw[qa];try simp)
 simp [qdg,qm]
 rw[← q4w hL]
 refine qa5 (fun i Γ S'=>∃ (v4 v5 v6:Option D) (N:DL),Γ=[some (qdg ws),some (.ref lt),some (qny n t),some (.ref S.length),v4,v5,v6]∧S'=stF S lt L N∧qjc n t ws L N∧∀ g ∈ ws.take i,∀ j < n,t g j=true→j ∈ ky (L++N))
   ⟨_,_,_,[],rfl,rfl,⟨by simpa using hnd,by simp [ky],by simp⟩,by simp⟩ (fun _ _ _ _=>qq) (fun i d Γ S' e h=> ?_) fun Γ S' h=> ?_
 · obtain ⟨v4,v5,v6,N,rfl,rfl,hg,hc⟩:=h
   rw[List.getElem?_map]at e
   cases e1:ws[i]? with
   | none=>rw[e1]at e;cases e
   | some g =>
     rw[e1]at e
     cases e
     have hgw:=List.mem_of_getElem? e1
     have hgn:=hw g hgw
     simp [qa,qny,qbe hgn,qcb,qm,qao]
     rw[qfr]
     refine qa5 (fun i' Γ S'=>∃ (v5 v6:Option D) (N:DL),Γ=[some (qdg ws),some (.ref lt),some (qny n t),some (.ref S.length),some (.int g),v5,v6]∧S'=stF S lt L N∧qjc n t ws L N∧(∀ g ∈ ws.take i,∀ j < n,t g j=true→j ∈ ky (L++N))∧∀ j < i',t g j=true→j ∈ ky (L++N))
       ⟨_,_,N,rfl,rfl,hg,hc,by simp⟩ (fun _ _ _ _=>qq) (fun j d Γ S' e h=> ?_) fun Γ S' h=> ?_
     · obtain ⟨v5,v6,N,rfl,rfl,hg,hc,hc2⟩:=h
       obtain ⟨hj,rfl⟩:=qg4 e
       have hN:=hg.len
       simp [qa,qhj]
       refine qdw (fun h=> ?_) fun h=> ?_
       · rw[qwh (q0i hlt)]
         simp
         refine qdw (fun h'=> ?_) fun h'=> ?_
         · refine⟨N,rfl,hg,hc,fun q hq r=> ?_⟩
           rcases Nat.lt_succ_iff_lt_or_eq.mp hq with z | rfl
           · exact hc2 q z r
           · exact h'
         · refine qs5 hlt h' (by omega) ?_
           have more:∀ q,q ∈ ky (L++N)→q ∈ ky (L++(N++[(j,some g)])):=fun q hq=>by rw[← List.append_assoc,qaz];exact List.mem_append_left _ hq
           refine⟨_,rfl,hg.add hj hgw h h',fun g' hg' q hq r=>more q (hc g' hg' q hq r),fun q hq r=> ?_⟩
           rcases Nat.lt_succ_iff_lt_or_eq.mp hq with z | rfl
           · exact more q (hc2 q z r)
           · rw[← List.append_assoc,qaz];simp [ky]
       · refine⟨N,rfl,hg,hc,fun q hq r=> ?_⟩
         rcases Nat.lt_succ_iff_lt_or_eq.mp hq with z | rfl
         · exact hc2 q z r
         · exact absurd r (by simpa using h)
     · obtain ⟨v5,v6,N,rfl,rfl,hg,hc,hc2⟩:=h
       rw[qbm]at hc2
       simp
       refine⟨rfl,N,rfl,hg,fun g' hg' q hq r=> ?_⟩
       rw[List.take_succ,e1]at hg'
       rcases List.mem_append.mp hg' with z | z
       · exact hc g' z q hq r
       · simp at z;subst z;exact hc2 q hq r
 · obtain ⟨v4,v5,v6,N,rfl,rfl,hg,hc⟩:=h
   rw[List.length_map,List.take_length]at hc
   simp [qa]
   exact qs6 fun T=>k N T hg hc
theorem qn0 {l b:Nat} {f:Nat→Nat→Int} (hn:n≤100) (hL:S[lt]? =some (qaq L)) (hM:Mat S l b n n fun i j=>.int (f i j)) (hd:lt ≠ l∧(lt < b∨b+n≤lt)) (hll:L.length≤n) (hnd:(ky L).Nodup) (hw:∀ g ∈ ws,g < n)
   (k:∀ N T,qjc n (fun t g=>decide (0 < f g t)) ws L N→(∀ t ∈ ws,∀ g < n,0 < f g t→g ∈ ky (L++N))→P (qdg (ky N)) (S.set lt (qaq (L++N))++[T])):Ok (qby [qdg ws,.ref lt,.ref l] S) P:=by
 refine Ok.run ?_
 unfold qek
 have hlt:lt < S.length:=(List.getElem?_eq_some_iff.mp hL).1
 have hM':∀ N,Mat (stF S lt L N) l b n n fun i j=>.int (f i j):=fun N=>hM.keep fun q hq=>qabr (by
   rcases hq with rfl | ⟨h1,h2⟩
   · exact(List.getElem?_eq_some_iff.mp hM.top).1
   · have:=(List.getElem?_eq_some_iff.mp (hM.row (q - b) (by omega))).1;omega) (by omega)
 ((try simp);rw[qa];try simp)
 ((try simp);rw[qa];try simp)
 simp [qdg,qm]
 rw[← q4w hL]
 refine qa5 (fun i Γ S'=>∃ (v4 v5 v6:Option D) (N:DL),Γ=[some (qdg ws),some (.ref lt),some (.ref l),some (.ref S.length),v4,v5,v6]∧S'=stF S lt L N∧qjc n (fun t g=>decide (0 < f g t)) ws L N∧∀ t ∈ ws.take i,∀ g < n,0 < f g t→g ∈ ky (L++N))
   ⟨_,_,_,[],rfl,rfl,⟨by simpa using hnd,by simp [ky],by simp⟩,by simp⟩ (fun _ _ _ _=>qq) (fun i d Γ S' e h=> ?_) fun Γ S' h=> ?_
 · obtain ⟨v4,v5,v6,N,rfl,rfl,hg,hc⟩:=h
   rw[List.getElem?_map]at e
   cases e1:ws[i]? with
   | none=>rw[e1]at e;cases e
   | some t =>
     rw[e1]at e
     cases e
     have hgw:=List.mem_of_getElem? e1
     have hgn:=hw t hgw
     simp [qa,qcb,qm,qao,(hM' N).top]
     rw[qfr]
     refine qa5 (fun i' Γ S'=>∃ (v5 v6:Option D) (N:DL),Γ=[some (qdg ws),some (.ref lt),some (.ref l),some (.ref S.length),some (.int t),v5,v6]∧S'=stF S lt L N∧qjc n (fun t g=>decide (0 < f g t)) ws L N∧(∀ t ∈ ws.take i,∀ g < n,0 < f g t→g ∈ ky (L++N))∧∀ g < i',0 < f g t→g ∈ ky (L++N))
       ⟨_,_,N,rfl,rfl,hg,hc,by simp⟩ (fun i Γ S' h=>by
         obtain ⟨_,_,N,rfl,rfl,_⟩:=h
         intro p hp
         simp at hp
         subst hp
         exact(hM' N).top) (fun j d Γ S' e h=> ?_) fun Γ S' h=> ?_
     · obtain ⟨v5,v6,N,rfl,rfl,hg,hc,hc2⟩:=h
       obtain ⟨hj,rfl⟩:=qg4 e
       have hN:=hg.len
       simp [qa]
       rw[(hM' N).get hj hgn]
       simp
       refine qdw (fun h=> ?_) fun h=> ?_
       · rw[qwh (q0i hlt)]
         simp
         refine qdw (fun h'=> ?_) fun h'=> ?_
         · refine⟨N,rfl,hg,hc,fun q hq r=> ?_⟩
           rcases Nat.lt_succ_iff_lt_or_eq.mp hq with z | rfl
           · exact hc2 q z r
           · exact h'
         · refine qs5 hlt h' (by omega) ?_
           have more:∀ q,q ∈ ky (L++N)→q ∈ ky (L++(N++[(j,some t)])):=fun q hq=>by rw[← List.append_assoc,qaz];exact List.mem_append_left _ hq
           refine⟨_,rfl,hg.add hj hgw (decide_eq_true h) h',fun g' hg' q hq r=>more q (hc g' hg' q hq r),fun q hq r=> ?_⟩
           rcases Nat.lt_succ_iff_lt_or_eq.mp hq with z | rfl
           · exact more q (hc2 q z r)
           · rw[← List.append_assoc,qaz];simp [ky]
       · refine⟨N,rfl,hg,hc,fun q hq r=> ?_⟩
         rcases Nat.lt_succ_iff_lt_or_eq.mp hq with z | rfl
         · exact hc2 q z r
         · exact absurd r h
     · obtain ⟨v5,v6,N,rfl,rfl,hg,hc,hc2⟩:=h
       rw[qbm]at hc2
       simp
       refine⟨N,rfl,hg,fun g' hg' q hq r=> ?_⟩
       rw[List.take_succ,e1]at hg'
       rcases List.mem_append.mp hg' with z | z
       · exact hc g' z q hq r
       · simp at z;subst z;exact hc2 q hq r
 · obtain ⟨v4,v5,v6,N,rfl,rfl,hg,hc⟩:=h
   rw[List.length_map,List.take_length]at hc
   simp [qa]
   exact qs6 fun T=>k N T hg hc
end
theorem qjd {R:Fl × Env→Sto→Prop} {Γ:Env} {S:Sto} {c:Env→M Bool} {body:MS} (Iv:Nat→Env→Sto→Prop) (k:Nat) (h0:Iv k Γ S)
   (step:∀ k Γ S,Iv k Γ S→Ok (c Γ S) fun b S1=>if b=true then Ok (body Γ S1) (Nxt R fun Γ2 S2=>∃ k' < k,Iv k' Γ2 S2)else R (.nx,Γ) S1):Ok (qda c body Γ S) R:=by
 have all:∀ (j k:Nat) Γ S,k < j→Iv k Γ S→Ok (qk c body j Γ S) R:=by
   intro j
   induction j with
   | zero=>intro k Γ S h;omega
   | succ j ih =>
     intro k Γ S hm hi
     rw[qho,qao]
     refine(step k Γ S hi).mono fun b S1 q=> ?_
     cases b with
     | false=>rw[if_neg Bool.false_ne_true]at q ⊢;exact q
     | true =>
       rw[if_pos rfl]at q ⊢
       rw[qao]
       refine q.mono fun r S2 q=> ?_
       obtain ⟨fl,Γ2⟩:=r
       cases fl with
       | nx=>obtain ⟨k',hk,q⟩:=q;exact ih k' Γ2 S2 (by omega) q
       | ct=>obtain ⟨k',hk,q⟩:=q;exact ih k' Γ2 S2 (by omega) q
       | bk=>exact q
       | rt d=>exact q
 exact qx5 (all (k+1) k Γ S (Nat.lt_succ_self _) h0)
structure Walk (n:Nat) (u:Nat→Int) (f:Nat→Nat→Int) (t:Nat→Nat→Bool) (ws:List Nat) (G T:DL):Prop where
 ndG:(ky G).Nodup
 ltG:∀ g ∈ ky G,g < n
 ndT:(ky T).Nodup
 ltT:∀ j ∈ ky T,j < n
 srcG:∀ p ∈ G,(p.2=none∧0 < u p.1)∨∃ j,p.2=some j∧j ∈ ky T∧0 < f p.1 j
 srcT:∀ p ∈ T,∃ g,p.2=some g∧g ∈ ky G∧t g p.1=true
 rank:∃ (a b:Nat→Nat) (B:Nat),(∀ p ∈ G,a p.1≤B∧∀ j,p.2=some j→b j < a p.1)∧∀ p ∈ T,b p.1≤B∧∀ g,p.2=some g→a g < b p.1
 sub:∀ g ∈ ws,g ∈ ky G
 goT:∀ g ∈ ky G,g ∉ ws→∀ j < n,t g j=true→j ∈ ky T
 goG:∀ j ∈ ky T,∀ g < n,0 < f g j→g ∈ ky G
 start:∀ g < n,0 < u g→g ∈ ky G
theorem qg5 {L:DL} {p:Nat × Option Nat} (h:p ∈ L):p.1 ∈ ky L:=List.mem_map.mpr ⟨p,h,rfl⟩
theorem Walk.step {n:Nat} {u:Nat→Int} {f:Nat→Nat→Int} {t:Nat→Nat→Bool} {ws:List Nat} {G T N1 N2:DL} (w:Walk n u f t ws G T) (h1:qjc n t ws T N1) (c1:∀ g ∈ ws,∀ j < n,t g j=true→j ∈ ky (T++N1))
   (h2:qjc n (fun j g=>decide (0 < f g j)) (ky N1) G N2) (c2:∀ j ∈ ky N1,∀ g < n,0 < f g j→g ∈ ky (G++N2)):Walk n u f t (ky N2) (G++N2) (T++N1):=by
 have inT:∀ j,j ∈ ky T→j ∈ ky (T++N1):=fun j h=>by rw[qaz];exact List.mem_append_left _ h
 have inG:∀ j,j ∈ ky G→j ∈ ky (G++N2):=fun j h=>by rw[qaz];exact List.mem_append_left _ h
 have inT':∀ j,j ∈ ky N1→j ∈ ky (T++N1):=fun j h=>by rw[qaz];exact List.mem_append_right _ h
 have inG':∀ j,j ∈ ky N2→j ∈ ky (G++N2):=fun j h=>by rw[qaz];exact List.mem_append_right _ h
 have offT:∀ j,j ∈ ky N1→j ∉ ky T:=fun j h h'=>by
   have:=h1.nd;rw[qaz,List.nodup_append]at this;exact this.2.2 j h' j h rfl
 have offG:∀ j,j ∈ ky N2→j ∉ ky G:=fun j h h'=>by
   have:=h2.nd;rw[qaz,List.nodup_append]at this;exact this.2.2 j h' j h rfl
 refine⟨h2.nd,fun g hg=> ?_,h1.nd,fun g hg=> ?_,fun p hp=> ?_,fun p hp=> ?_,?_,inG',fun g hg hn j hj r=> ?_,fun j hj g hg r=> ?_,fun g hg r=>inG g (w.start g hg r)⟩
 · rw[qaz]at hg;rcases List.mem_append.mp hg with z | z
   · exact w.ltG g z
   · exact h2.lt g z
 · rw[qaz]at hg;rcases List.mem_append.mp hg with z | z
   · exact w.ltT g z
   · exact h1.lt g z
 · rcases List.mem_append.mp hp with z | z
   · rcases w.srcG p z with q | ⟨j,q1,q2,q3⟩
     · exact .inl q
     · exact .inr ⟨j,q1,inT j q2,q3⟩
   · obtain ⟨j,q1,q2,q3⟩:=h2.from_ p z
     exact .inr ⟨j,q2,inT' j q1,of_decide_eq_true q3⟩
 · rcases List.mem_append.mp hp with z | z
   · obtain ⟨g,q1,q2,q3⟩:=w.srcT p z
     exact⟨g,q1,inG g q2,q3⟩
   · obtain ⟨j,q1,q2,q3⟩:=h1.from_ p z
     exact⟨j,q2,inG j (w.sub j q1),q3⟩
 · obtain ⟨a,b,B,q1,q2⟩:=w.rank
   refine⟨fun g=>if g ∈ ky N2 then B+2 else a g,fun j=>if j ∈ ky N1 then B+1 else b j,B+2,fun p hp=> ?_,fun p hp=> ?_⟩
   · rcases List.mem_append.mp hp with z | z
     · have e:p.1 ∉ ky N2:=fun h=>offG _ h (qg5 z)
       simp only [if_neg e]
       refine⟨by have:=(q1 p z).1;omega,fun j hj=> ?_⟩
       have:j ∉ ky N1:=fun h=>by
         rcases w.srcG p z with ⟨q,_⟩ | ⟨j',q,q',_⟩
         · rw[q]at hj;cases hj
         · rw[q]at hj;cases hj;exact offT _ h q'
       simp only [if_neg this]
       exact(q1 p z).2 j hj
     · have e:p.1 ∈ ky N2:=qg5 z
       simp only [if_pos e]
       refine⟨Nat.le_refl _,fun j hj=> ?_⟩
       obtain ⟨j',r1,r2,_⟩:=h2.from_ p z
       rw[hj]at r2;cases r2
       simp only [if_pos r1]
       omega
   · rcases List.mem_append.mp hp with z | z
     · have e:p.1 ∉ ky N1:=fun h=>offT _ h (qg5 z)
       simp only [if_neg e]
       refine⟨by have:=(q2 p z).1;omega,fun j hj=> ?_⟩
       obtain ⟨g,r1,r2,_⟩:=w.srcT p z
       rw[hj]at r1;cases r1
       have:j ∉ ky N2:=fun h=>offG _ h r2
       simp only [if_neg this]
       exact(q2 p z).2 j hj
     · have e:p.1 ∈ ky N1:=qg5 z
       simp only [if_pos e]
       refine⟨by omega,fun j hj=> ?_⟩
       obtain ⟨g,r1,r2,_⟩:=h1.from_ p z
       rw[hj]at r2;cases r2
       have:j ∉ ky N2:=fun h=>offG _ h (w.sub j r1)
       simp only [if_neg this]
       obtain ⟨p',hp',e'⟩:=List.mem_map.mp (w.sub j r1)
       have:=(q1 p' hp').1
       rw[e']at this
       omega
 · rw[qaz]at hg;rcases List.mem_append.mp hg with z | z
   · by_cases hw:g ∈ ws
     · exact c1 g hw j hj r
     · exact inT j (w.goT g z hw j hj r)
   · exact absurd z hn
 · rw[qaz]at hj;rcases List.mem_append.mp hj with z | z
   · exact inG g (w.goG j z g hg r)
   · exact c2 j z g hg r
theorem q0j {L:DL}:(dks L).map qga=(ky L).map fun w:Nat=>D.int (w:Int):=by simp [dks,ky,qga,Function.comp_def]
theorem q3o {L:DL} {S:Sto} {l:Nat} (h:S[l]? =some (qaq L)):biF (.keys false) [.ref l] S=.ok (qdg (ky L)) S:=by
 show qfj false [.ref l] S=_
 unfold qfj
 dsimp only
 rw[qhn h]
 dsimp only
 rw[q0j]
 rfl
theorem qwi {S:Sto} {l:Nat} {L:DL} (h:S[l]? =some (qaq L)):qd3 (.ref l) S=.ok (qbj L) (S.set l .gone):=by
 have st:∀ o,Still (qfs o):=fun o=>by cases o with
   | none=>exact fun n S=>by cases n <;> simp [frz,qfs]
   | some g=>exact qci
 have all:∀ (xs:List D) (S:Sto),(∀ d ∈ xs,Still d)→frzs 2 xs S=some (xs,S):=by
   intro xs
   induction xs with
   | nil=>intro S _;simp [frzs]
   | cons d ds ih =>
     intro S hs
     rw[frzs,hs d (by simp) 2 S]
     dsimp only
     rw[ih S fun x hx=>hs x (by simp [hx])]
 unfold qd3
 have:frz 3 (.ref l) S=some (qbj L,S.set l .gone):=by
   have h':S[l]? =some (.dct (dks L) (dvs L)):=h
   simp [frz,h',all (dvs L) S fun d hd=>by obtain ⟨p,_,rfl⟩:=List.mem_map.mp hd;exact st _,qbj]
 rw[this]
theorem q0k {L:DL} {t:Nat} {o:Option Nat} (hn:t ∉ ky L):qbg (dks L) (.inl (t:Int))=dks (L++[(t,o)])∧qax (dks L) (dvs L) (.inl (t:Int)) (qfs o)=dvs (L++[(t,o)]):=by
 have hk:qfb (dks L) (.inl (t:Int))=false:=by rw[quv];simpa using hn
 constructor
 · simp only [qbg,hk];simp [dks]
 · simp only [qax,hk];simp [dvs]
theorem quw {n l b lu:Nat} {S:Sto} {u:Nat→Int} {f:Nat→Nat→Int} {t:Nat→Nat→Bool} {P:D→Sto→Prop} (hn:n≤100) (hU:S[lu]? =some (.lst (vec n fun i=>.int (u i)))) (hM:Mat S l b n n fun i j=>.int (f i j))
   (k:∀ G T X,Walk n u f t [] G T→P (.tup [qbj G,qbj T]) (S++X)):Ok (qd6 [.ref l,.ref lu,qny n t] S) P:=by
 refine Ok.run ?_
 unfold qiw
 ((try simp);rw[qa];try simp)
 simp [qcb,qm,hU,qao]
 rw[qfr]
 refine⟨qt (by rw[qbm];omega),?_⟩
 refine q8n (fun i ks xs S'=>∃ L:DL,ks=dks L∧xs=dvs L∧S'=S∧(ky L).Nodup∧(∀ g ∈ ky L,g < i)∧(∀ p ∈ L,p.2=none∧0 < u p.1)∧∀ g < i,0 < u g→g ∈ ky L) ⟨[],rfl,rfl,rfl,by simp [ky],by simp [ky],by simp,by simp⟩ (fun i a b S' h=>by
     obtain ⟨_,_,_,rfl,_⟩:=h
     intro p hp
     simp at hp
     subst hp
     exact hU) (fun i d ks xs S' e h=> ?_) fun ks xs S' h=> ?_
 · obtain ⟨L,rfl,rfl,rfl,h1,h2,h3,h4⟩:=h
   obtain ⟨hi,rfl⟩:=qg4 e
   have hni:i ∉ ky L:=fun z=>by have:=h2 i z;omega
   simp
   refine qdw (fun h=> ?_) fun h=> ?_
   · refine⟨_,rfl,L++[(i,none)],(q0k hni).1,(q0k (o:=none) hni).2,?_,fun g hg=> ?_,fun a b hp=> ?_,fun g hg r=> ?_⟩
     · rw[qaz,List.nodup_append]
       exact⟨h1,by simp [ky],fun a ha b hb=>by simp [ky]at hb;subst hb;rintro rfl;exact hni ha⟩
     · rw[qaz]at hg
       rcases List.mem_append.mp hg with z | z
       · have:=h2 g z;omega
       · simp [ky]at z;omega
     · rcases List.mem_append.mp hp with z | z
       · exact h3 _ z
       · simp at z;obtain ⟨rfl,rfl⟩:=z;exact⟨rfl,h⟩
     · rw[qaz]
       rcases Nat.lt_succ_iff_lt_or_eq.mp hg with z | rfl
       · exact List.mem_append_left _ (h4 g z r)
       · exact List.mem_append_right _ (by simp [ky])
   · refine⟨L,rfl,rfl,h1,fun g hg=>by have:=h2 g hg;omega,fun a b hp=>h3 (a,b) hp,fun g hg r=> ?_⟩
     rcases Nat.lt_succ_iff_lt_or_eq.mp hg with z | rfl
     · exact h4 g z r
     · exact absurd r h
 · obtain ⟨L,rfl,rfl,rfl,h1,h2,h3,h4⟩:=h
   rw[qbm]at h2 h4
   ((try simp);rw[qa];try simp)
   ((try simp);rw[qa];try simp)
   have e0:(S'++[qaq L,qaq []])[S'.length]? =some (qaq L):=by rw[List.getElem?_append_right (Nat.le_refl _)];simp
   have e1:(S'++[qaq L,qaq []])[S'.length+1]? =some (qaq []):=by rw[List.getElem?_append_right (by omega)];simp
   change Ok (biF (Bi.keys false) [D.ref S'.length] (S'++[qaq L,qaq []])) _
   rw[q3o e0]
   ((try simp);rw[qa];try simp)
   have w0:Walk n u f t (ky L) L []:=⟨h1,h2,by simp [ky],by simp [ky],fun p hp=>.inl (h3 p hp),by simp,⟨fun _=>0,fun _=>0,0,fun p hp=>⟨Nat.le_refl _,fun j hj=>by rw[(h3 p hp).1]at hj;cases hj⟩,by simp⟩,fun g hg=>hg,fun g hg hn=>absurd hg hn,by simp [ky],h4⟩
   refine qjd (fun κ Γ S2=>∃ (ws:List Nat) (G T:DL) (v:Option D),Γ=[some (.ref l),some (.ref lu),some (qny n t),some (.ref S'.length),some (.ref (S'.length+1)),some (qdg ws),v]∧S2[S'.length]? =some (qaq G)∧S2[S'.length+1]? =some (qaq T)∧(∀ q < S'.length,S2[q]? =S'[q]?)∧Walk n u f t ws G T∧κ=2 * (n - G.length)+if ws=[]then 0 else 1) _
     ⟨ky L,L,[],_,rfl,e0,e1,fun q hq=>List.getElem?_append_left hq,w0,rfl⟩ fun κ Γ S2 h=> ?_
   obtain ⟨ws,G,T,v,rfl,g1,g2,g3,w,rfl⟩:=h
   have lenG:G.length≤n:=by have:=qcj w.ndG w.ltG;simpa [ky]using this
   have lenT:T.length≤n:=by have:=qcj w.ndT w.ltT;simpa [ky]using this
   have q1:=(List.getElem?_eq_some_iff.mp g1).1
   have q2:=(List.getElem?_eq_some_iff.mp g2).1
   cases ws with
   | nil =>
     simp [qdg,qhj,qa]
     rw[qwi g1]
     simp
     rw[qwi (L:=T) (by rw[List.getElem?_set_ne (by omega)];exact g2)]
     simp [qut]
     obtain ⟨X,e⟩:=qmn (S:=S') (S':=(S2.set S'.length .gone).set (S'.length+1) .gone) (by simp;omega) fun q hq=>by
       rw[List.getElem?_set_ne (by omega),List.getElem?_set_ne (by omega)];exact g3 q hq
     rw[e]
     exact k G T X w
   | cons a ws =>
     generalize hws:a::ws=ws' at *
     have hne:ws' ≠ []:=by rw[← hws];simp
     have htr:qhj (qdg ws')=M.pure true:=by rw[← hws];rfl
     simp [htr]
     ((try simp);rw[qa];try simp)
     refine qnz hn g2 lenT w.ndT (fun g hg=>w.ltG g (w.sub g hg)) fun N1 X1 gr1 c1=> ?_
     generalize hS3:S2.set (S'.length+1) (qaq (T++N1))++[X1]=S3
     have l3:S3.length=S2.length+1:=by rw[← hS3];simp
     have o3:∀ q,q < S2.length→q ≠ S'.length+1→S3[q]? =S2[q]? :=fun q h1 h2=>by
       rw[← hS3,List.getElem?_append_left (by simpa using h1),List.getElem?_set_ne (Ne.symm h2)]
     have t3:S3[S'.length+1]? =some (qaq (T++N1)):=by
       rw[← hS3,List.getElem?_append_left (by simpa using q2),List.getElem?_set,if_pos rfl,if_pos q2]
     have ml:=(List.getElem?_eq_some_iff.mp hM.top).1
     have mr:∀ i < n,b+i < S'.length:=fun i hi=>(List.getElem?_eq_some_iff.mp (hM.row i hi)).1
     have lM:b+n≤S'.length∨n=0:=by
       by_cases z:n=0
       · exact .inr z
       · have:=mr (n - 1) (by omega);exact .inl (by omega)
     have M3:Mat S3 l b n n fun i j=>.int (f i j):=hM.keep fun q hq=>by
       have hq':q < S'.length:=by rcases hq with rfl | hq;exact ml;omega
       rw[o3 q (by omega) (by omega),g3 q hq']
     ((try simp);rw[qa];try simp)
     refine qn0 (L:=G) hn (by rw[o3 _ (by omega) (by omega)];exact g1) M3 ⟨by omega,by omega⟩ lenG w.ndG gr1.lt fun N2 X2 gr2 c2=> ?_
     have w':=w.step gr1 c1 gr2 c2
     have lenG':(G++N2).length≤n:=by have:=qcj w'.ndG w'.ltG;simpa [ky]using this
     refine⟨_,?_,ky N2,rfl,G++N2,?_,T++N1,?_,fun q hq=> ?_,w',rfl⟩
     · simp at lenG'
       simp [hne]
       cases N2 with
       | nil=>simp [ky]
       | cons p N2=>simp [ky]at lenG' ⊢;omega
     · rw[List.getElem?_append_left (by simp;omega),List.getElem?_set,if_pos rfl,if_pos (by omega)]
     · rw[List.getElem?_append_left (by simp;omega),List.getElem?_set_ne (by omega)];exact t3
     · rw[List.getElem?_append_left (by simp;omega),List.getElem?_set_ne (by omega),o3 q (by omega) (by omega)];exact g3 q hq
theorem q4x:∀ {L:DL} {j:Nat},j ∈ ky L→∃ o,(j,o) ∈ L∧qfe (dks L) (dvs L) (.inl (j:Int))=some (qfs o)
 | [],j,h=>by simp [ky]at h
 | (i,o)::L,j,h=>by
   by_cases e:i=j
   · subst e;exact⟨o,by simp,by simp [dks,dvs,qfe]⟩
   · have:j ∈ ky L:=by simp [ky]at h ⊢;rcases h with h | h;exact absurd h.symm e;exact h
     obtain ⟨o',h1,h2⟩:=q4x this
     refine⟨o',by simp [h1],?_⟩
     have ne:¬ (Sum.inl (i:Int):Key)=.inl (j:Int):=fun z=>e (by have:=Sum.inl.inj z;omega)
     simpa [dks,dvs,qfe,ne]using h2
theorem ix_t {L:DL} {j:Nat} (h:j ∈ ky L):∃ o,(j,o) ∈ L∧∀ S,ixM (qbj L) (.int j) S=.ok (qfs o) S:=by
 obtain ⟨o,h1,h2⟩:=q4x h
 refine⟨o,h1,fun S=> ?_⟩
 show ixM (.dct (dks L) (dvs L)) (.int j) S=_
 unfold ixM
 simp only [keyOf,h2]
 rfl
theorem qqf {L:DL} {S:Sto}:look (qbj L) S=qbj L:=rfl
theorem q0l {n lr:Nat} {S:Sto} {r:Nat→Int} {T:DL} {P:D→Sto→Prop} (hR:S[lr]? =some (.lst (vec n fun i=>.int (r i)))) (hT:∀ j ∈ ky T,j < n) (k1:∀ j ∈ ky T,0 < r j→P (.int j) S) (k2:(∀ j ∈ ky T,r j≤0)→P .non S):Ok (qap [qbj T,.ref lr] S) P:=by
 refine Ok.run ?_
 unfold qbz
 ((try simp);rw[qa];try simp)
 simp [qeh,qbj,q0j]
 refine qa5 (fun i Γ S'=>∃ v:Option D,Γ=[some (qbj T),some (.ref lr),v]∧S'=S∧∀ j ∈ (ky T).take i,r j≤0) ⟨_,rfl,rfl,by simp⟩ (fun _ _ _ _=>qq) (fun i d Γ S' e h=> ?_) fun Γ S' h=> ?_
 · obtain ⟨v,rfl,rfl,h⟩:=h
   rw[List.getElem?_map]at e
   cases e1:(ky T)[i]? with
   | none=>rw[e1]at e;cases e
   | some j =>
     rw[e1]at e
     cases e
     have hj:=List.mem_of_getElem? e1
     simp [qa,qh hR,qbe (hT j hj)]
     refine qdw (fun h'=>k1 j hj h') fun h'=> ?_
     intro q hq
     rw[List.take_succ,e1]at hq
     rcases List.mem_append.mp hq with z | z
     · exact h q z
     · simp at z;subst z;omega
 · obtain ⟨v,rfl,rfl,h⟩:=h
   rw[List.length_map,List.take_length]at h
   simp [qa]
   exact k2 h
noncomputable abbrev Stp:=Nat × Nat × Option Nat
noncomputable def qft (p:Stp):D:=.tup [.int p.1,.int p.2.1,qfs p.2.2]
inductive Path (G T:DL):Nat→List Stp→Option Nat→Prop
 | nil {e:Nat}:Path G T e [] (some e)
 | snoc {e g j:Nat} {o:Option Nat} {ps:List Stp}:Path G T e ps (some j)→(j,some g) ∈ T→(g,o) ∈ G→Path G T e (ps++[(g,j,o)]) o
theorem q3p {n:Nat} {S:Sto} {u:Nat→Int} {f:Nat→Nat→Int} {t:Nat→Nat→Bool} {G T:DL} {e:Nat} {P:D→Sto→Prop} (hn:n≤100) (w:Walk n u f t [] G T) (he:e ∈ ky T)
   (k:∀ ps X,Path G T e ps none→(ps.map (·.1)).Nodup→P (.lst (ps.map qft)) (S++[X])):Ok (qd7 [.int e,qbj G,qbj T] S) P:=by
 refine Ok.run ?_
 unfold qix
 ((try simp);rw[qa];try simp)
 ((try simp);rw[qa];try simp)
 ((try simp);rw[qa];try simp)
 obtain ⟨a,b,B,r1,r2⟩:=w.rank
 obtain ⟨J,hJ⟩:∃ J:Nat→Env→Sto→Prop,∀ κ Γ S',J κ Γ S'↔∃ (o:Option Nat) (ps:List Stp) (v:Option D),Γ=[some (.int e),some (qbj G),some (qbj T),some (.ref S.length),some (qfs o),v]∧S'=S++[.lst (ps.map qft)]∧Path G T e ps o∧(ps.map (·.1)).Nodup∧(∀ j,o=some j→j ∈ ky T∧∀ p ∈ ps,b j < a p.1)∧(∀ p ∈ ps,p.1 < n)∧κ=(match o with | none=>0 | some j=>b j+1):=⟨_,fun _ _ _=>Iff.rfl⟩
 refine qjd J _ ((hJ _ _ _).mpr ⟨some e,[],_,rfl,rfl,.nil,by simp,fun j hj=>by cases hj;exact⟨he,by simp⟩,by simp,rfl⟩) fun κ Γ S' h=> ?_
 obtain ⟨o,ps,v,rfl,rfl,h1,h2,h3,h4,rfl⟩:=(hJ _ _ _).mp h
 have hlen:ps.length≤n:=by have:=qcj h2 (by simpa using h4);simpa using this
 cases o with
 | none =>
   simp [qfs,qa]
   rw[qhw (xs:=ps.map qft) (by simp) (fun d hd=>by obtain ⟨p,_,rfl⟩:=List.mem_map.mp hd;exact qo0)]
   simp
   exact k ps .gone h1 h2
 | some j =>
   obtain ⟨hj,hlt⟩:=h3 j rfl
   obtain ⟨og,ho,eo⟩:=ix_t hj
   obtain ⟨g,eg,hg,htg⟩:=w.srcT _ ho
   simp at eg
   subst eg
   obtain ⟨ob,hb,eb⟩:=ix_t hg
   simp only [qfs]at eo
   simp only [qfs]
   simp
   ((try simp);rw[qa];try simp)
   rw[qqf,eo]
   ((try simp);rw[qa];try simp)
   rw[qqf,eb]
   simp [qbt]
   rw[qml (xs:=ps.map qft) (by simp) (by simp;omega)]
   ((try simp);rw[qa];try simp)
   rw[qqf,eb]
   simp
   have lg:∀ p ∈ ps,a g < a p.1:=fun p hp=>Nat.lt_trans ((r2 _ ho).2 g rfl) (hlt p hp)
   have hgn:g < n:=w.ltG g hg
   refine⟨_,?_,(hJ _ _ _).mpr ⟨ob,ps++[(g,j,ob)],_,rfl,by simp [qft,qfs],.snoc h1 ho hb,?_,fun j' hj'=> ?_,fun p hp=> ?_,rfl⟩⟩
   · cases ob with
     | none=>simp
     | some j' =>
       have x1:=(r1 _ hb).2 j' rfl
       have x2:=(r2 _ ho).2 g rfl
       simp at x1 x2 ⊢
       omega
   · rw[List.map_append,List.nodup_append]
     refine⟨h2,by simp,fun x hx y hy=> ?_⟩
     simp at hy
     subst hy
     rintro rfl
     obtain ⟨p,hp,e1⟩:=List.mem_map.mp hx
     have:=lg p hp
     rw[e1]at this
     omega
   · subst hj'
     have x1:=(r1 _ hb).2 j' rfl
     refine⟨?_,fun p hp=> ?_⟩
     · rcases w.srcG _ hb with ⟨z,_⟩ | ⟨j2,z,z2,_⟩
       · cases z
       · cases z;exact z2
     · rcases List.mem_append.mp hp with z | z
       · have:=lg p z;simp at x1;omega
       · rw[List.mem_singleton.mp z];exact x1
   · rcases List.mem_append.mp hp with z | z
     · exact h4 p z
     · rw[List.mem_singleton.mp z];exact hgn
noncomputable def sm:Nat→(Nat→Int)→Int
 | 0,_=>0
 | n+1,g=>sm n g+g n
theorem qal {g h:Nat→Int}:∀ {n:Nat},(∀ i < n,g i=h i)→sm n g=sm n h
 | 0,_=>rfl
 | n+1,e=>by rw[sm,sm,qal fun i hi=>e i (by omega),e n (by omega)]
theorem qck {g h:Nat→Int}:∀ {n:Nat},sm n (fun i=>g i+h i)=sm n g+sm n h
 | 0=>rfl
 | n+1=>by rw[sm,sm,sm,qck];omega
theorem qqg {i:Nat} {c:Int}:∀ {n:Nat},sm n (fun k=>if k=i then c else 0)=if i < n then c else 0
 | 0=>rfl
 | n +1=>by
   rw[sm,qqg]
   by_cases h:n=i
   · subst h;simp
   · by_cases h':i < n
     · rw[if_pos h',if_neg h,if_pos (by omega)];omega
     · rw[if_neg h',if_neg h,if_neg (by omega)];rfl
theorem qd9 {g:Nat→Int}:∀ {n:Nat},(∀ i < n,0≤g i)→0≤sm n g
 | 0,_=>Int.le_refl _
 | n+1,h=>by
   rw[sm]
   have:=qd9 fun i (hi:i < n)=>h i (by omega)
   have:=h n (by omega)
   omega
theorem qux {g:Nat→Int} {n i:Nat} {c:Int} (hi:i < n):sm n (fun k=>g k+if k=i then c else 0)=sm n g+c:=by
 rw[qck,qqg,if_pos hi]
section
variable {G T:DL} {e:Nat}
noncomputable def qkh (e:Nat) (ps:List Stp):Option Nat:=match ps.getLast? with
 | none=>some e
 | some p=>p.2.2
theorem Path.cur {ps:List Stp} {o:Option Nat} (h:Path G T e ps o):qkh e ps=o:=by
 cases h with
 | nil=>rfl
 | snoc _ _ _=>simp [qkh]
theorem snoc_cases {α:Type} (ys:List α):ys=[]∨∃ zs z,ys=zs++[z]:=by
 rcases List.eq_nil_or_concat ys with h | ⟨zs,z,h⟩
 · exact .inl h
 · exact .inr ⟨zs,z,by simpa using h⟩
theorem Path.split {ps:List Stp} {o:Option Nat} (h:Path G T e ps o):∀ {xs ys:List Stp} {p:Stp},ps=xs++p::ys→Path G T e xs (some p.2.1)∧(p.2.1,some p.1) ∈ T∧(p.1,p.2.2) ∈ G:=by
 induction h with
 | nil=>intro xs ys p z;simp at z
 | @snoc g j o' qs h' ht hg ih =>
   intro xs ys p z
   rcases snoc_cases ys with rfl | ⟨zs,y,rfl⟩
   · obtain ⟨rfl,z2⟩:=List.append_inj' z rfl
     simp at z2
     subst z2
     exact⟨h',ht,hg⟩
   · rw[show xs++p::(zs++[y])=(xs++p::zs)++[y]by simp]at z
     obtain ⟨z1,_⟩:=List.append_inj' z rfl
     exact ih z1
theorem Path.at_ {ps:List Stp} {o:Option Nat} (h:Path G T e ps o) {i:Nat} {p:Stp} (hp:ps[i]? =some p):qkh e (ps.take i)=some p.2.1∧(p.2.1,some p.1) ∈ T∧(p.1,p.2.2) ∈ G∧qkh e (ps.take (i+1))=p.2.2:=by
 obtain ⟨hi,rfl⟩:=List.getElem?_eq_some_iff.mp hp
 have:=h.split (xs:=ps.take i) (ys:=ps.drop (i+1)) (p:=ps[i]) (by rw[← List.drop_eq_getElem_cons hi,List.take_append_drop])
 refine⟨this.1.cur,this.2.1,this.2.2,?_⟩
 have e2:ps.take (i+1)=ps.take i++[ps[i]]:=by rw[List.take_succ,hp];rfl
 rw[e2]
 simp only [qkh,List.getLast?_concat]
end
structure Net (S:Sto) (l b lu lr n:Nat) (f:Nat→Nat→Int) (u r:Nat→Int):Prop where
 mat:Mat S l b n n fun i j=>.int (f i j)
 un:S[lu]? =some (.lst (vec n fun i=>.int (u i)))
 ro:S[lr]? =some (.lst (vec n fun i=>.int (r i)))
 ne:lu ≠ lr∧lu ≠ l∧lr ≠ l∧(lu < b∨b+n≤lu)∧(lr < b∨b+n≤lr)
structure Sent (n:Nat) (t:Nat→Nat→Bool) (f f':Nat→Nat→Int) (s e:Nat) (m:Int):Prop where
 pos:∀ i < n,∀ j < n,0≤f' i j
 tie:∀ i < n,∀ j < n,f' i j ≠ 0→t i j=true
 row:∀ i < n,sm n (f' i)=sm n (f i)+if i=s then m else 0
 col:∀ j < n,sm n (fun i=>f' i j)=sm n (fun i=>f i j)+if j=e then m else 0
theorem q0m {α:Type} {xs:List α} {x:α}:atI (xs++[x]) (-1)=some x:=by
 unfold atI ixN
 simp
 rw[if_pos (by omega)]
 simp
 rw[show ((-1+((xs.length:Int)+1)).toNat)=xs.length by omega]
 simp
theorem q3q {S:Sto} {xs ys:List D} (h:xs.length+ys.length≤1000):qf8 false .Add (.lst xs) (.lst ys) S=.ok (.lst (xs++ys)) S:=by
 simp only [qf8,seen,qxj,look]
 rw[if_pos (qbt h)]
 rfl
theorem q0n {S:Sto} {ns:List Int} (h:ns ≠ []):biF .min [.lst (ns.map D.int)] S=.ok (.int (qf9 ns)) S:=by
 show minD [D.lst (ns.map D.int)] S=_
 unfold minD
 simp only [look,qbu]
 have:ns.isEmpty=false:=by cases ns <;> first | exact absurd rfl h | rfl
 simp [this]
@[simp] theorem neg_int {i:Int} {S:Sto}:qul (.int i) S=.ok (.int (-i)) S:=(rfl)
noncomputable def bump (f:Nat→Nat→Int) (g j:Nat) (c:Int):Nat→Nat→Int:=fun a b=>f a b+if a=g∧b=j then c else 0
theorem qmo {f:Nat→Nat→Int} {n g j a:Nat} {c:Int} (hj:j < n):sm n (bump f g j c a)=sm n (f a)+if a=g then c else 0:=by
 by_cases h:a=g
 · subst h
   rw[if_pos rfl,← qux hj]
   exact qal fun i _=>by simp [bump]
 · rw[if_neg h,Int.add_zero]
   exact qal fun i _=>by simp [bump,h]
theorem qmp {f:Nat→Nat→Int} {n g j a:Nat} {c:Int} (hg:g < n):sm n (fun i=>bump f g j c i a)=sm n (fun i=>f i a)+if a=j then c else 0:=by
 by_cases h:a=j
 · subst h
   rw[if_pos rfl,← qux hg]
   exact qal fun i _=>by simp [bump]
 · rw[if_neg h,Int.add_zero]
   exact qal fun i _=>by simp [bump,h]
theorem Mat.bump {S:Sto} {l b n:Nat} {f:Nat→Nat→Int} (h:Mat S l b n n fun i j=>.int (f i j)) {g j:Nat} {c v:Int} (hg:g < n) (hv:v=f g j+c):Mat (S.set (b+g) (.lst ((vec n fun j=>.int (f g j)).set j (.int v)))) l b n n fun i j'=>.int (T3.bump f g j c i j'):=by
 refine(h.set (j:=j) hg (.int v)).cong fun a a' _ _=> ?_
 by_cases e:a=g∧a'=j
 · obtain ⟨rfl,rfl⟩:=e;simp [T3.bump,hv]
 · simp [T3.bump,e]
noncomputable def qg6 (f:Nat→Nat→Int) (p:Stp):Option Int:=p.2.2.map fun b=>f p.1 b
theorem q3r {n l b lu lr:Nat} {S:Sto} {u r:Nat→Int} {f:Nat→Nat→Int} {t:Nat→Nat→Bool} {G T:DL} {e:Nat} {ps:List Stp} {P:D→Sto→Prop} (hn:n≤100) (w:Walk n u f t [] G T) (hN:Net S l b lu lr n f u r) (he:0 < r e) (hp:Path G T e ps none) (nd:(ps.map (·.1)).Nodup) (f0:∀ i < n,∀ j < n,0≤f i j) (ft:∀ i < n,∀ j < n,f i j ≠ 0→t i j=true)
   (k:∀ m s f' S',0 < m→s < n→e < n→m≤r e→m≤u s→Sent n t f f' s e m→Net S' l b lu lr n f' (fun i=>u i - if i=s then m else 0) (fun i=>r i - if i=e then m else 0)→S'.length=S.length→(∀ q,q ≠ l→q ≠ lu→q ≠ lr→(q < b∨b+n≤q)→S'[q]? =S[q]?)→P .non S'):Ok (qb0 [.lst (ps.map qft),.ref l,.ref lu,.ref lr] S) P:=by
 refine Ok.run ?_
 unfold qel
 have ne:ps ≠ []:=by
   rintro rfl
   have:=hp.cur
   simp [qkh]at this
 obtain ⟨qs,z,hz⟩:∃ qs z,ps=qs++[z]:=by rcases snoc_cases ps with h | h;exact absurd h ne;exact h
 have hlast:z.2.2=none:=by have:=hp.cur;rw[hz]at this;simpa [qkh]using this
 have hz':ps[qs.length]? =some z:=by rw[hz];simp
 obtain ⟨_,hzT,hzG,_⟩:=hp.at_ hz'
 obtain ⟨h0,hh0⟩:∃ h0,ps[0]? =some h0:=⟨ps[0]'(by cases ps;exact absurd rfl ne;simp),List.getElem?_eq_getElem _⟩
 have hh1:h0.2.1=e:=by have:=(hp.at_ hh0).1;simp [qkh]at this;exact this.symm
 have inG:∀ p ∈ ps,p.1 < n:=fun p hp'=>by
   obtain ⟨i,hi⟩:=List.getElem?_of_mem hp'
   exact w.ltG _ (qg5 (hp.at_ hi).2.2.1)
 have inT:∀ p ∈ ps,p.2.1 < n:=fun p hp'=>by
   obtain ⟨i,hi⟩:=List.getElem?_of_mem hp'
   exact w.ltT _ (qg5 (p:=(p.2.1,some p.1)) (hp.at_ hi).2.1)
 have bk:∀ p ∈ ps,∀ j,p.2.2=some j→j < n∧0 < f p.1 j:=fun p hp' j hj=>by
   obtain ⟨i,hi⟩:=List.getElem?_of_mem hp'
   rcases w.srcG _ (hp.at_ hi).2.2.1 with ⟨q,_⟩ | ⟨j',q1,q2,q3⟩
   · simp at q;rw[q]at hj;cases hj
   · simp at q1;rw[q1]at hj;cases hj;exact⟨w.ltT _ q2,q3⟩
 have hs:0 < u z.1:=by
   rcases w.srcG _ hzG with ⟨_,q⟩ | ⟨j',q1,_⟩
   · exact q
   · rw[hlast]at q1;cases q1
 have hzm:z ∈ ps:=List.mem_of_getElem? hz'
 have sn:=inG z hzm
 have en:e < n:=hh1 ▸ inT h0 (List.mem_of_getElem? hh0)
 have hlen:ps.length≤n:=by have:=qcj nd (by simpa using fun x y o h=>inG (x,y,o) h);simpa using this
 have a0:atI (ps.map qft) 0=some (qft h0):=by
   have:atI (ps.map qft) ((0:Nat):Int)=some (qft h0):=qfx (by rw[List.getElem?_map,hh0];rfl)
   simpa using this
 have a1:atI (ps.map qft) (-1)=some (qft z):=by rw[hz,List.map_append];exact q0m
 ((try simp);rw[qa];try simp)
 simp [a0,qft,hh1]
 ((try simp);rw[qa];try simp)
 simp [a1,qft]
 ((try simp);rw[qa];try simp)
 simp [qm]
 refine⟨qt (by omega),qlx (fun i a S'=>S'=S∧a=((ps.take i).filterMap (qg6 f)).map D.int) ⟨rfl,by simp⟩ (fun _ _ _ _=>qq) (fun i d a S' e1 h=> ?_) fun a S' h=> ?_⟩
 · obtain ⟨rfl,rfl⟩:=h
   rw[List.getElem?_map]at e1
   cases e2:ps[i]? with
   | none=>rw[e2]at e1;cases e1
   | some p =>
     rw[e2]at e1
     cases e1
     have ht:ps.take (i+1)=ps.take i++[p]:=by rw[List.take_succ,e2];rfl
     have hpm:=List.mem_of_getElem? e2
     simp [qft]
     cases e3:p.2.2 with
     | none=>simp [qfs,ht,qg6,e3]
     | some j =>
       obtain ⟨hj,_⟩:=bk p hpm j e3
       simp [qfs,hN.mat.ix (inG p hpm),hN.mat.get (inG p hpm) hj]
       rw[ht]
       simp [qg6,e3]
 · obtain ⟨rfl,rfl⟩:=h
   rw[List.length_map,List.take_length]
   have hbl:(ps.filterMap (qg6 f)).length≤100:=Nat.le_trans (List.length_filterMap_le _ _) (by omega)
   ((try simp);rw[qa];try simp)
   simp [qh hN.ro,qh hN.un,qbe en,qbe sn,qdf]
   rw[q3q (by simp;omega)]
   have hmin:=q0n (S:=S') (ns:=r e::u z.1::ps.filterMap (qg6 f)) (by simp)
   simp at hmin
   simp [hmin]
   obtain ⟨mm1,mm2⟩:=qlf (ns:=r e::u z.1::ps.filterMap (qg6 f)) (by simp)
   have m0:0 < qf9 (r e::u z.1::ps.filterMap (qg6 f)):=by
     rcases List.mem_cons.mp mm1 with h | h
     · omega
     · rcases List.mem_cons.mp h with h | h
       · omega
       · obtain ⟨p,hp1,hp2⟩:=List.mem_filterMap.mp h
         have hp3:(p.2.2.map fun b=>f p.1 b)=some (qf9 (r e::u z.1::ps.filterMap (qg6 f))):=hp2
         cases e3:p.2.2 with
         | none=>rw[e3]at hp3;cases hp3
         | some j=>rw[e3]at hp3;have:=(bk p hp1 j e3).2;have:f p.1 j=qf9 (r e::u z.1::ps.filterMap (qg6 f)):=Option.some.inj hp3;omega
   have mr:qf9 (r e::u z.1::ps.filterMap (qg6 f))≤r e:=mm2 _ (by simp)
   have mu:qf9 (r e::u z.1::ps.filterMap (qg6 f))≤u z.1:=mm2 _ (by simp)
   have mb:∀ p ∈ ps,∀ j,p.2.2=some j→qf9 (r e::u z.1::ps.filterMap (qg6 f))≤f p.1 j:=fun p hp' j hj=>mm2 _ (by
     refine List.mem_cons_of_mem _ (List.mem_cons_of_mem _ (List.mem_filterMap.mpr ⟨p,hp',?_⟩))
     simp [qg6,hj])
   generalize qf9 (r e::u z.1::ps.filterMap (qg6 f))=m at *
   ((try simp);rw[qa];try simp)
   simp [qm]
   obtain ⟨J,hJ⟩:∃ J:Nat→Env→Sto→Prop,∀ i Γ S1,J i Γ S1↔∃ (v8 v9 v10:Option D) (f':Nat→Nat→Int),Γ=[some (.lst (ps.map qft)),some (.ref l),some (.ref lu),some (.ref lr),some (.int e),some (.int z.1),some (.lst ((ps.filterMap (qg6 f)).map D.int)),some (.int m),v8,v9,v10]∧Mat S1 l b n n (fun i j=>.int (f' i j))∧S1.length=S'.length∧(∀ q,(q < b∨b+n≤q)→S1[q]? =S'[q]?) ∧
       (∀ a < n,∀ c < n,0≤f' a c)∧(∀ a < n,∀ c < n,f' a c ≠ 0→t a c=true)∧(∀ a,sm n (f' a)=sm n (f a)+if qkh e (ps.take i)=none∧a=z.1 then m else 0)∧(∀ c,sm n (fun a=>f' a c)=sm n (fun a=>f a c)+(if c=e then m else 0) - if qkh e (ps.take i)=some c then m else 0)∧(∀ a,a ∉ (ps.take i).map (·.1)→∀ c,f' a c=f a c):=⟨_,fun _ _ _=>Iff.rfl⟩
   refine qa5 J ((hJ _ _ _).mpr ⟨_,_,_,f,rfl,hN.mat,rfl,fun _ _=>rfl,f0,ft,fun a=>by simp [qkh],fun c=>by
       simp only [List.take_zero,qkh,List.getLast?_nil]
       by_cases hc:c=e
       · subst hc;simp
       · have:¬ e=c:=fun h=>hc h.symm
         simp [hc,this],fun _ _ _=>rfl⟩) (fun _ _ _ _=>qq) (fun i d Γ S1 e1 h=> ?_) fun Γ S1 h=> ?_
   · obtain ⟨v8,v9,v10,f',rfl,hM,hl,ho,pos,tie,row,col,fr⟩:=(hJ _ _ _).mp h
     rw[List.getElem?_map]at e1
     cases e2:ps[i]? with
     | none=>rw[e2]at e1;cases e1
     | some p =>
       rw[e2]at e1
       cases e1
       have hpm:=List.mem_of_getElem? e2
       obtain ⟨c1,hT',hG',c2⟩:=hp.at_ e2
       obtain ⟨g,j,ob⟩:=p
       have hg:g < n:=inG _ hpm
       have hj:j < n:=inT _ hpm
       have hi:i < ps.length:=(List.getElem?_eq_some_iff.mp e2).1
       have ht:ps.take (i+1)=ps.take i++[(g,j,ob)]:=by rw[List.take_succ,e2];rfl
       have hgn:g ∉ (ps.take i).map (·.1):=by
         have:(ps.map (·.1)).take (i+1)=(ps.take i).map (·.1)++[g]:=by rw[← List.map_take,ht];simp
         have nd2:((ps.map (·.1)).take (i+1)).Nodup:=nd.sublist (List.take_sublist _ _)
         rw[this,List.nodup_append]at nd2
         exact fun hh=>nd2.2.2 g hh g (by simp) rfl
       have tgj:t g j=true:=by
         obtain ⟨g',q1,_,q3⟩:=w.srcT _ hT'
         simp at q1;subst q1;exact q3
       simp only [qft]
       simp
       ((try simp);rw[qa];try simp)
       rw[hM.ix hg]
       simp
       rw[hM.get hg hj]
       simp
       rw[hM.put hg hj]
       have hM1:=hM.bump (j:=j) (c:=m) hg rfl
       have b0:b+g < S1.length:=(List.getElem?_eq_some_iff.mp (hM.row g hg)).1
       have frg:∀ c,f' g c=f g c:=fr g hgn
       cases ob with
       | none =>
         simp at c2
         have last:g=z.1:=by
           by_cases hq:i=qs.length
           · subst hq;rw[e2]at hz';cases hz';rfl
           · have hi2:i+1 < ps.length:=by rw[hz]at hi ⊢;simp at hi ⊢;omega
             have:=(hp.at_ (List.getElem?_eq_getElem hi2)).1
             rw[c2]at this;cases this
         simp [qa,qfs]
         refine(hJ _ _ _).mpr ⟨_,_,_,bump f' g j m,rfl,hM1,by simpa using hl,fun q hq=>by rw[List.getElem?_set_ne (by omega)];exact ho q hq,fun a ha c hc=> ?_,fun a ha c hc hne=> ?_,fun a=> ?_,fun c=> ?_,fun a ha c=> ?_⟩
         · have:=pos a ha c hc;unfold bump;split <;> omega
         · unfold bump at hne
           by_cases hx:a=g∧c=j
           · rw[hx.1,hx.2];exact tgj
           · rw[if_neg hx]at hne;exact tie a ha c hc (by omega)
         · rw[qmo hj,row a,c1,c2,last]
           simp
         · rw[qmp hg,col c,c1,c2]
           by_cases hx:c=j
           · subst hx;simp
           · have:¬ j=c:=fun h=>hx h.symm
             simp [hx,this]
         · rw[ht]at ha
           simp at ha
           have hag:¬ a=g:=fun hh=>ha.2 hh
           rw[show bump f' g j m a c=f' a c by simp [bump,hag]]
           exact fr a (by simpa using ha.1) c
       | some j' =>
         obtain ⟨hj',hf'⟩:=bk _ hpm j' rfl
         have hb:=mb _ hpm j' rfl
         simp at c2 hb hf'
         simp [qa,qfs]
         rw[hM1.ix hg]
         simp
         rw[hM1.get hg hj']
         simp
         rw[hM1.put hg hj']
         have hM2:=hM1.bump (j:=j') (c:= -m) (v:=bump f' g j m g j' - m) hg (by omega)
         rw[List.set_set]at hM2
         simp
         refine(hJ _ _ _).mpr ⟨_,_,_,bump (bump f' g j m) g j' (-m),rfl,hM2,by simpa using hl,fun q hq=>by rw[List.getElem?_set_ne (by omega)];exact ho q hq,fun a ha c hc=> ?_,fun a ha c hc hne=> ?_,fun a=> ?_,fun c=> ?_,fun a ha c=> ?_⟩
         · have h1:=pos a ha c hc
           by_cases hx:a=g∧c=j'
           · obtain ⟨rfl,rfl⟩:=hx
             have:=frg c
             simp only [bump]
             simp
             split <;> omega
           · simp only [bump,if_neg hx]
             split <;> omega
         · by_cases hx:a=g∧c=j
           · rw[hx.1,hx.2];exact tgj
           · by_cases hy:a=g∧c=j'
             · obtain ⟨rfl,rfl⟩:=hy
               exact tie a ha c hc (by rw[frg c];omega)
             · simp only [bump,if_neg hx,if_neg hy]at hne
               exact tie a ha c hc (by omega)
         · rw[qmo hj',qmo hj,row a,c1,c2]
           simp
           split <;> omega
         · rw[qmp hg,qmp hg,col c,c1,c2]
           by_cases hx:c=j <;> by_cases hy:c=j' <;> simp [hx,hy,eq_comm] <;> omega
         · rw[ht]at ha
           simp at ha
           have hag:¬ a=g:=fun hh=>ha.2 hh
           rw[show bump (bump f' g j m) g j' (-m) a c=f' a c by simp [bump,hag]]
           exact fr a (by simpa using ha.1) c
   · obtain ⟨v8,v9,v10,f',rfl,hM,hl,ho,pos,tie,row,col,fr⟩:=(hJ _ _ _).mp h
     rw[List.length_map,List.take_length,hp.cur]at row
     rw[List.length_map,List.take_length,hp.cur]at col
     obtain ⟨n1,n2,n3,n4,n5⟩:=hN.ne
     have hU:S1[lu]? =some (.lst (vec n fun i=>.int (u i))):=by rw[ho lu n4];exact hN.un
     have hR:S1[lr]? =some (.lst (vec n fun i=>.int (r i))):=by rw[ho lr n5];exact hN.ro
     have lU:=(List.getElem?_eq_some_iff.mp hU).1
     have lR:=(List.getElem?_eq_some_iff.mp hR).1
     ((try simp);rw[qa];try simp)
     simp [qh hU,qbe sn]
     rw[qp3 hU (by rw[qbm];exact qkt sn)]
     ((try simp);rw[qa];try simp)
     have hR2:(S1.set lu (.lst ((vec n fun i=>.int (u i)).set z.1 (.int (u z.1 - m)))))[lr]? =some (.lst (vec n fun i=>.int (r i))):=by rw[List.getElem?_set_ne n1];exact hR
     simp [qh hR2,qbe en]
     rw[qp3 hR2 (by rw[qbm];exact qkt en)]
     simp
     refine k m z.1 f' _ m0 sn en mr mu ⟨pos,tie,fun a _=>by simpa using row a,fun c _=>by simpa using col c⟩ ⟨hM.keep fun q hq=> ?_,?_,?_,hN.ne⟩ (by simpa using hl) fun q q1 q2 q3 q4=> ?_
     · rw[List.getElem?_set_ne (by omega),List.getElem?_set_ne (by omega)]
     · rw[List.getElem?_set_ne (Ne.symm n1),List.getElem?_set,if_pos rfl,if_pos lU,qqd]
       congr 2
       exact qqc fun i hi=>by by_cases hx:i=z.1 <;> simp [hx]
     · rw[List.getElem?_set,if_pos rfl,if_pos (by simpa using lR),qqd]
       congr 2
       exact qqc fun i hi=>by by_cases hx:i=e <;> simp [hx]
     · rw[List.getElem?_set_ne (Ne.symm q3),List.getElem?_set_ne (Ne.symm q2)]
       exact ho q q4
structure Flow (n:Nat) (w:Nat→Int) (t:Nat→Nat→Bool) (f:Nat→Nat→Int) (u r:Nat→Int):Prop where
 u0:∀ i < n,0≤u i
 r0:∀ i < n,0≤r i
 pos:∀ i < n,∀ j < n,0≤f i j
 tie:∀ i < n,∀ j < n,f i j ≠ 0→t i j=true
 row:∀ i < n,sm n (f i)+u i=w i
 col:∀ j < n,sm n (fun i=>f i j)+r j=w j
noncomputable def qa8 (n:Nat) (w:Nat→Int):D:=.lst (vec n fun i=>.int (w i))
noncomputable def qs7 (n:Nat) (f:Nat→Nat→Int):D:=.lst (vec n fun i=>.lst (vec n fun j=>.int (f i j)))
theorem qb8:∀ {n:Nat},sm n (fun _=>0)=0
 | 0=>rfl
 | n+1=>by rw[sm,qb8];rfl
theorem qqh {g h:Nat→Int}:∀ {n:Nat},sm n (fun i=>g i - h i)=sm n g - sm n h
 | 0=>rfl
 | n+1=>by rw[sm,sm,sm,qqh];omega
theorem Net.ext {S:Sto} {l b lu lr n:Nat} {f:Nat→Nat→Int} {u r:Nat→Int} (h:Net S l b lu lr n f u r) (X:Sto):Net (S++X) l b lu lr n f u r:=by
 have lt:∀ {q:Nat} {c:Cell},S[q]? =some c→(S++X)[q]? =some c:=fun {q c} e=>by rw[List.getElem?_append_left (List.getElem?_eq_some_iff.mp e).1];exact e
 exact⟨⟨lt h.mat.top,fun i hi=>lt (h.mat.row i hi),h.mat.out⟩,lt h.un,lt h.ro,h.ne⟩
theorem qs8 {S:Sto} {xs:List D}:biF (.list true) [.lst xs] S=.ok (.ref S.length) (S++[.lst xs]):=rfl
theorem qmq {n:Nat} {S:Sto} {w:Nat→Int} {t:Nat→Nat→Bool} {P:D→Sto→Prop} (hn:n≤100) (hw:∀ i < n,0≤w i)
   (k:∀ f u r G T X,Flow n w t f u r→Walk n u f t [] G T→(∀ j ∈ ky T,r j=0)→P (.tup [qs7 n f,qbj G,qbj T]) (S++X)):Ok (qcd [qa8 n w,qny n t] S) P:=by
 refine Ok.run ?_
 unfold qiy
 ((try simp);rw[qa];try simp)
 simp [qm,qa8]
 refine⟨qt (by omega),quu (Φ:=[]) (fn:=[]) (n:=n) (m:=n) (x:=.int 0) (by simp) (fun _=>qq) (fun d hd T=> ?_) ?_⟩
 · simp [qdf,qqe (show n≤1000 by omega)]
 · ((try simp);rw[qa];try simp)
   rw[qs8]
   ((try simp);rw[qa];try simp)
   rw[qs8]
   ((try simp);rw[qa];try simp)
   have hN0:Net (S++((vec n fun _=>Cell.lst (vec n fun _=>D.int 0))++[Cell.lst (vec n fun i=>.ref (S.length+i)),Cell.lst (vec n fun i=>D.int (w i)),Cell.lst (vec n fun i=>D.int (w i))])) (S.length+n) S.length (S.length+(n+1)) (S.length+(n+2)) n (fun _ _=>0) w w:=by
     refine⟨⟨?_,fun i hi=> ?_,.inr (Nat.le_refl _)⟩,?_,?_,by omega⟩
     · rw[List.getElem?_append_right (by omega),List.getElem?_append_right (by simp)];simp
     · rw[List.getElem?_append_right (by omega),List.getElem?_append_left (by simp;omega)];simp [qfq hi]
     · rw[List.getElem?_append_right (by omega),List.getElem?_append_right (by simp)];simp
     · rw[List.getElem?_append_right (by omega),List.getElem?_append_right (by simp)];simp
   have hq0:∀ q < S.length,(S++((vec n fun _=>Cell.lst (vec n fun _=>D.int 0))++[Cell.lst (vec n fun i=>.ref (S.length+i)),Cell.lst (vec n fun i=>D.int (w i)),Cell.lst (vec n fun i=>D.int (w i))]))[q]? =S[q]? :=fun q hq=>List.getElem?_append_left hq
   generalize S++((vec n fun _=>Cell.lst (vec n fun _=>D.int 0))++[Cell.lst (vec n fun i=>.ref (S.length+i)),Cell.lst (vec n fun i=>D.int (w i)),Cell.lst (vec n fun i=>D.int (w i))])=S0 at *
   obtain ⟨l,hl⟩:∃ l,S.length+n=l:=⟨_,rfl⟩
   obtain ⟨lu,hlu⟩:∃ l,S.length+(n+1)=l:=⟨_,rfl⟩
   obtain ⟨lr,hlr⟩:∃ l,S.length+(n+2)=l:=⟨_,rfl⟩
   rw[hl,hlu,hlr]at hN0 ⊢
   obtain ⟨J,hJ⟩:∃ J:Nat→Env→Sto→Prop,∀ κ Γ S1,J κ Γ S1↔∃ (v5 v6 v7:Option D) (f:Nat→Nat→Int) (u r:Nat→Int),Γ=[some (.lst (vec n fun i=>.int (w i))),some (qny n t),some (.ref l),some (.ref lu),some (.ref lr),v5,v6,v7]∧Net S1 l S.length lu lr n f u r∧(∀ q < S.length,S1[q]? =S[q]?)∧Flow n w t f u r∧κ=(sm n u).toNat:=⟨_,fun _ _ _=>Iff.rfl⟩
   refine qjd J _ ((hJ _ _ _).mpr ⟨_,_,_,fun _ _=>0,w,w,rfl,hN0,hq0,⟨hw,hw,fun _ _ _ _=>Int.le_refl _,fun _ _ _ _ h=>absurd rfl h,fun i _=>by rw[qb8];omega,fun i _=>by rw[qb8];omega⟩,rfl⟩) fun κ Γ S1 h=> ?_
   obtain ⟨v5,v6,v7,f,u,r,rfl,hN,hq,fl,rfl⟩:=(hJ _ _ _).mp h
   simp [qhj]
   ((try simp);rw[qa];try simp)
   refine quw hn hN.un hN.mat fun G T X wk=> ?_
   have hN1:=hN.ext X
   simp
   ((try simp);rw[qa];try simp)
   refine q0l hN1.ro wk.ltT (fun e he hr=> ?_) fun hr=> ?_
   · ((try simp);rw[qa];try simp)
     simp [qa]
     refine q3p hn wk he fun ps Y hp nd=> ?_
     have hN2:=hN.ext (X++[Y])
     simp
     refine q3r hn wk hN2 hr hp nd fl.pos fl.tie fun m s f' S' m0 sn en mr mu se hN' hl' hq'=> ?_
     have hr0:r e - m ≥ 0:=by omega
     refine⟨_,?_,(hJ _ _ _).mpr ⟨_,_,_,f',_,_,rfl,hN',fun q hq2=> ?_,⟨fun i hi=> ?_,fun i hi=> ?_,se.pos,se.tie,fun i hi=> ?_,fun j hj=> ?_⟩,rfl⟩⟩
     · rw[qqh,qqg,if_pos sn]
       have:0≤sm n (fun i=>u i - if i=s then m else 0):=qd9 fun i hi=>by
         have:=fl.u0 i hi
         by_cases h:i=s
         · subst h;simp;omega
         · simp [h];exact this
       rw[qqh,qqg,if_pos sn]at this
       omega
     · have:q < S1.length:=by
         have:=(List.getElem?_eq_some_iff.mp hN.mat.top).1
         omega
       rw[hq' q (by omega) (by omega) (by omega) (.inl hq2),List.getElem?_append_left this]
       exact hq q hq2
     · have:=fl.u0 i hi
       by_cases h:i=s
       · subst h;simp;omega
       · simp [h];exact this
     · have:=fl.r0 i hi
       by_cases h:i=e
       · subst h;simp;omega
       · simp [h];exact this
     · rw[se.row i hi];have:=fl.row i hi;omega
     · rw[se.col j hj];have:=fl.col j hj;omega
   · ((try simp);rw[qa];try simp)
     simp [qa]
     obtain ⟨S3,e1,e2,e3⟩:=qku hN1.mat fun i j=>qci
     rw[e1]
     simp [qbt]
     have hlS:=(List.getElem?_eq_some_iff.mp hN.mat.top).1
     obtain ⟨X',rfl⟩:=qmn (S:=S) (S':=S3) (by simp at e2;omega) fun q hq2=>by
       rw[e3 q (by omega) (.inl hq2),List.getElem?_append_left (by omega)];exact hq q hq2
     exact k f u r G T X' fl wk fun j hj=>Int.le_antisymm (hr j hj) (fl.r0 j (wk.ltT j hj))
theorem qdz {g:Nat→Int} {c:Int}:∀ {n:Nat},sm n (fun i=>c * g i)=c * sm n g
 | 0=>by simp [sm]
 | n+1=>by rw[sm,sm,qdz,Int.mul_add]
theorem qjx {g h:Nat→Int}:∀ {n:Nat},(∀ i < n,g i≤h i)→sm n g≤sm n h
 | 0,_=>Int.le_refl _
 | n+1,e=>by
   rw[sm,sm]
   have:=qjx fun i (hi:i < n)=>e i (by omega)
   have:=e n (by omega)
   omega
theorem qea {f:Nat→Nat→Int}:∀ {n m:Nat},sm n (fun i=>sm m (f i))=sm m (fun j=>sm n (fun i=>f i j))
 | 0,m=>by rw[sm];exact qb8.symm
 | n+1,m=>by rw[sm,qea,← qck];rfl
noncomputable def tot (n:Nat) (R:Nat→Nat→Int):Int:=sm n fun i=>sm n (R i)
structure Stk (n:Nat) (w:Nat→Int) (t:Nat→Nat→Bool) (R:Nat→Nat→Int):Prop where
 pos:∀ i < n,∀ j < n,0≤R i j
 sym:∀ i < n,∀ j < n,R i j=R j i
 tie:∀ i < n,∀ j < n,R i j ≠ 0→t i j=true
 row:∀ i < n,sm n (R i)≤2 * w i
structure Cov (n:Nat) (t:Nat→Nat→Bool) (c:Nat→Int):Prop where
 lo:∀ i < n,0≤c i
 hi:∀ i < n,c i≤2
 two:∀ i < n,∀ j < n,t i j=true→2≤c i+c j
noncomputable def cost (n:Nat) (w c:Nat→Int):Int:=sm n fun i=>w i * c i
theorem weak {n:Nat} {w c:Nat→Int} {t:Nat→Nat→Bool} {R:Nat→Nat→Int} (s:Stk n w t R) (v:Cov n t c):tot n R≤2 * cost n w c:=by
 have h1:2 * tot n R≤sm n fun i=>sm n fun j=>R i j * (c i+c j):=by
   unfold tot
   rw[← qdz]
   refine qjx fun i hi=> ?_
   rw[← qdz]
   refine qjx fun j hj=> ?_
   by_cases h:R i j=0
   · rw[h];simp
   · have:=v.two i hi j hj (s.tie i hi j hj h)
     have:=Int.mul_le_mul_of_nonneg_left this (s.pos i hi j hj)
     rw[Int.mul_comm 2];exact this
 have h2:(sm n fun i=>sm n fun j=>R i j * (c i+c j))=2 * sm n fun i=>c i * sm n (R i):=by
   have e1:∀ i,(sm n fun j=>R i j * (c i+c j))=c i * sm n (R i)+sm n fun j=>R i j * c j:=fun i=>by
     rw[← qdz,← qck];exact qal fun j _=>by rw[Int.mul_add,Int.mul_comm (R i j) (c i)]
   rw[qal fun i _=>e1 i,qck,qea (f:=fun i j=>R i j * c j)]
   have e2:(sm n fun j=>sm n fun i=>R i j * c j)=sm n fun i=>c i * sm n (R i):=qal fun j hj=>by
     rw[← qdz];exact qal fun i hi=>by rw[s.sym i hi j hj,Int.mul_comm]
   rw[e2];omega
 have h3:(sm n fun i=>c i * sm n (R i))≤sm n fun i=>2 * (w i * c i):=qjx fun i hi=>by
   have:=Int.mul_le_mul_of_nonneg_left (s.row i hi) (v.lo i hi)
   rw[show 2 * (w i * c i)=c i * (2 * w i)by rw[← Int.mul_assoc,Int.mul_comm]];exact this
 rw[qdz]at h3
 unfold cost
 omega
noncomputable def hv (G T:DL) (i:Nat):Int:=(if i ∈ ky G then 0 else 1)+if i ∈ ky T then 1 else 0
theorem q8p {n:Nat} {u:Nat→Int} {t:Nat→Nat→Bool} {f:Nat→Nat→Int} {G T:DL} (k:Walk n u f t [] G T) (ts:∀ i < n,∀ j < n,t i j=t j i):Cov n t (hv G T):=by
 refine⟨fun i _=> ?_,fun i _=> ?_,fun i hi j hj h=> ?_⟩
 · unfold hv;split <;> split <;> omega
 · unfold hv;split <;> split <;> omega
 · have h1:i ∈ ky G→j ∈ ky T:=fun z=>k.goT i z (by simp) j hj h
   have h2:j ∈ ky G→i ∈ ky T:=fun z=>k.goT j z (by simp) i hi (by rw[← ts i hi j hj];exact h)
   unfold hv
   by_cases a:i ∈ ky G <;> by_cases b:j ∈ ky G <;> simp [a,b,h1,h2] <;> (try split) <;> (try split) <;> omega
theorem q0o {n:Nat} {w u r:Nat→Int} {t:Nat→Nat→Bool} {f:Nat→Nat→Int} (fl:Flow n w t f u r) (ts:∀ i < n,∀ j < n,t i j=t j i):Stk n w t (fun i j=>f i j+f j i):=by
 refine⟨fun i hi j hj=> ?_,fun i _ j _=>Int.add_comm _ _,fun i hi j hj h=> ?_,fun i hi=> ?_⟩
 · have:=fl.pos i hi j hj;have:=fl.pos j hj i hi;omega
 · by_cases a:f i j=0
   · rw[ts i hi j hj];exact fl.tie j hj i hi (by omega)
   · exact fl.tie i hi j hj a
 · rw[qck (g:=f i) (h:=fun j=>f j i)]
   have:=fl.row i hi;have:=fl.col i hi;have:=fl.u0 i hi;have:=fl.r0 i hi
   omega
theorem qwj {n:Nat} {f:Nat→Nat→Int}:tot n (fun i j=>f i j+f j i)=2 * tot n f:=by
 unfold tot
 rw[qal fun i _=>qck (n:=n) (g:=f i) (h:=fun j=>f j i),qck,qea (f:=fun i j=>f j i)]
 have e:(sm n fun j=>sm n fun i=>f j i)=sm n fun i=>sm n (f i):=rfl
 rw[e]
 omega
theorem q8q {n:Nat} {w u r:Nat→Int} {t:Nat→Nat→Bool} {f:Nat→Nat→Int} {G T:DL} (fl:Flow n w t f u r) (k:Walk n u f t [] G T) (hr:∀ j ∈ ky T,r j=0):cost n w (hv G T)=tot n f:=by
 have e1:cost n w (hv G T)=(sm n fun i=>if i ∈ ky G then 0 else sm n (f i))+sm n fun j=>if j ∈ ky T then sm n (fun i=>f i j)else 0:=by
   rw[← qck]
   refine qal fun i hi=> ?_
   have h1:i ∉ ky G→sm n (f i)=w i:=fun h=>by
     have:=fl.row i hi;have:=fl.u0 i hi
     have:¬ 0 < u i:=fun z=>h (k.start i hi z)
     omega
   have h2:i ∈ ky T→sm n (fun a=>f a i)=w i:=fun h=>by
     have:=fl.col i hi;have:=hr i h;omega
   unfold hv
   by_cases a:i ∈ ky G <;> by_cases b:i ∈ ky T
   · simp [a,b,h2 b]
   · simp [a,b]
   · simp [a,b,h1 a,h2 b];omega
   · simp [a,b,h1 a]
 have e2:(sm n fun i=>if i ∈ ky G then 0 else sm n (f i))=sm n fun i=>sm n fun j=>if i ∈ ky G then 0 else f i j:=qal fun i _=>by
   by_cases a:i ∈ ky G
   · simp only [if_pos a];exact qb8.symm
   · simp only [if_neg a]
 have e3:(sm n fun j=>if j ∈ ky T then sm n (fun i=>f i j)else 0)=sm n fun i=>sm n fun j=>if j ∈ ky T then f i j else 0:=by
   rw[qea (f:=fun i j=>if j ∈ ky T then f i j else 0)]
   refine qal fun j _=> ?_
   by_cases a:j ∈ ky T
   · simp only [if_pos a]
   · simp only [if_neg a];exact qb8.symm
 rw[e1,e2,e3,← qck]
 refine qal fun i hi=> ?_
 rw[← qck]
 refine qal fun j hj=> ?_
 by_cases z:f i j=0
 · rw[z];simp
 · have h0:0 < f i j:=by have:=fl.pos i hi j hj;omega
   by_cases a:i ∈ ky G
   · have:j ∈ ky T:=k.goT i a (by simp) j hj (fl.tie i hi j hj z)
     simp [a,this]
   · have:j ∉ ky T:=fun b=>a (k.goG j b i hi h0)
     simp [a,this]
theorem qhy {ts:Option (List (Nat × Nat))} {i j:Nat}:qak ts i j=qak ts j i:=by
 cases ts with
 | none=>simp only [qak];rw[Bool.eq_iff_iff];simp;omega
 | some l =>
   simp only [qak]
   congr 1
   funext p
   rw[Bool.or_comm]
theorem q3s {Γ:Env} {S:Sto} {src:Src} {n m:Nat} {it:Nat→D} {g:Nat→Nat→D} {hd:D→Env→M Env} {cond:Env→M Bool} {elt:Env→M D} {k:Nat} {Q:List D→Sto→Prop} (hs:∀ T,q8 src (S++T))
   (step:∀ i < n,∀ T,Ok (hd (it i) (List.replicate k none++Γ) (S++T)) fun Γ1 S1=>Ok (cond Γ1 S1) fun b S2=>b=true∧Ok (elt Γ1 S2) fun y S3=>y=.ref (S++T).length∧S3=S++T++[.lst (vec m (g i))])
   (fin:Q (vec n fun i=>.ref (S.length+i)) (S++vec n fun i=>.lst (vec m (g i)))):Ok (lcA src k hd cond elt Γ [] (vec n it) S) Q:=by
 refine qlx (fun i a S'=>a=(vec i fun i=>.ref (S.length+i))∧S'=S++vec i fun i=>.lst (vec m (g i))) ⟨rfl,by simp [vec]⟩ (fun i a S' h=>h.2 ▸ hs _) (fun i d a S' e h=> ?_) fun a S' h=> ?_
 · obtain ⟨rfl,rfl⟩:=h
   obtain ⟨hi,rfl⟩:=qg4 e
   refine(step i hi _).mono fun Γ1 S1 q=>q.mono fun b S2 q=> ?_
   obtain ⟨rfl,q⟩:=q
   rw[if_pos rfl]
   refine q.mono fun y S3 q=> ?_
   obtain ⟨rfl,rfl⟩:=q
   exact⟨by rw[qb7];simp,by rw[qb7];simp⟩
 · obtain ⟨rfl,rfl⟩:=h
   rw[qbm]
   exact fin
theorem q0p {S:Sto} {n m:Nat} {g:Nat→Nat→D}:Mat (S++(vec n fun i=>Cell.lst (vec m (g i)))++[.lst (vec n fun i=>.ref (S.length+i))]) (S.length+n) S.length n m g:=by
 refine⟨?_,fun i hi=> ?_,.inr (Nat.le_refl _)⟩
 · rw[List.getElem?_append_right (by simp)];simp
 · rw[List.getElem?_append_left (by simp;omega),List.getElem?_append_right (by omega)]
   simp [qfq hi]
theorem qs9 {n:Nat} {S:Sto} {w:Nat→Int} {ts:Option (List (Nat × Nat))} {P:D→Sto→Prop} (hn:n≤100) (hw:∀ i < n,0≤w i) (ht:qep n ts)
   (k:∀ f u r G T X l b,Flow n w (qak ts) f u r→Walk n u f (qak ts) [] G T→(∀ j ∈ ky T,r j=0)→S.length≤b→S.length≤l→Mat (S++X) l b n n (fun i j=>.int (f i j+f j i))→P (.ref l) (S++X)):Ok (qce [qa8 n w,qaa ts] S) P:=by
 refine Ok.run ?_
 unfold qgo
 ((try simp);rw[qa];try simp)
 simp [qa8]
 refine qhx hn ht fun X1=> ?_
 refine qmq hn hw fun f u r G T X2 fl wk hr=> ?_
 simp
 ((try simp);rw[qa];try simp)
 simp [qa,qcb,qm,qs7,qao]
 rw[qfr]
 refine⟨qt (by simp;omega),q3s (m:=n) (g:=fun i j=>.int (f i j+f j i)) (fun _=>qq) (fun i hi T=> ?_) ?_⟩
 · simp [qcb,qm,qao]
   rw[qfr]
   refine⟨qt (by simp;omega),qf5 (g:=fun j=>.int (f i j+f j i)) qq (fun j hj=> ?_) ?_⟩
   · simp [qbe hj,qbe hi]
   · simp
 · have hM:=q0p (S:=S++(X1++X2)) (n:=n) (m:=n) (g:=fun i j=>.int (f i j+f j i))
   have:=k f u r G T (X1++X2++(vec n fun i=>Cell.lst (vec n fun j=>D.int (f i j+f j i)))++[Cell.lst (vec n fun i=>D.ref ((S++(X1++X2)).length+i))]) ((S++(X1++X2)).length+n) (S++(X1++X2)).length fl wk hr (by simp) (by simp;omega) (by
     have e:S++(X1++X2++(vec n fun i=>Cell.lst (vec n fun j=>D.int (f i j+f j i)))++[Cell.lst (vec n fun i=>D.ref ((S++(X1++X2)).length+i))])=S++(X1++X2)++(vec n fun i=>Cell.lst (vec n fun j=>D.int (f i j+f j i)))++[Cell.lst (vec n fun i=>D.ref ((S++(X1++X2)).length+i))]:=by simp
     rw[e];exact hM)
   simpa [Nat.add_assoc]using this
@[simp] theorem qaez {i:Int} {S:Sto}:biF .isi [.int i,.ty "int"] S=.ok (.bl true) S:=(rfl)
@[simp] theorem qae0 {i:Int} {S:Sto}:biF .isi [.int i,.ty "bool"] S=.ok (.bl false) S:=(rfl)
@[simp] theorem qae1 {b:Bool} {S:Sto}:qhj (.bl b) S=.ok b S:=(rfl)
theorem sum_list:∀ {n:Nat} {g:Nat→Int},(vec n g).sum=sm n g
 | 0,_=>by simp [vec,sm]
 | n+1,g=>by rw[qb7,List.sum_append,sum_list,sm];simp
theorem qwk {n:Nat} {g:Nat→Int} {S:Sto}:biF .sum [.lst (vec n fun i=>.int (g i))] S=.ok (.int (sm n g)) S:=by
 have:(vec n fun i=>D.int (g i))=(vec n g).map D.int:=qqb.symm
 rw[this]
 show qbs qm8 [.lst ((vec n g).map D.int)] S=_
 simp [qbs,sum_ints,sum_list]
theorem qwl:∀ {n:Nat} {S:Sto},biF .all [.lst (vec n fun _=>.bl true)] S=.ok (.bl true) S:=by
 intro n S
 have e:∀ n,qa0 (vec n fun _=>D.bl true)=some (List.replicate n true):=fun n=>by
   rw[← qwf]
   induction n with
   | zero=>rfl
   | succ n ih=>rw[List.replicate_succ,qa0,ih];rfl
 show qbs qm9 [.lst (vec n fun _=>.bl true)] S=_
 simp only [qbs,look,qm9,e]
 simp
theorem q3t {l:List (Nat × Nat)} {i j:Nat}:qc8 (.tup [.int i,.int j]) (l.map qb6)=some (l.any fun p=>p.1==i && p.2==j):=by
 induction l with
 | nil=>rfl
 | cons p l ih =>
   rw[List.map_cons,qc8,ih]
   have:eqD (qb6 p) (.tup [.int i,.int j])=some (p.1==i && p.2==j):=by
     unfold qb6
     simp only [eqD,qa9,D.flat,eqV,Option.map_some,List.length_cons,List.length_nil,if_true]
     congr 1
     rw[Bool.eq_iff_iff]
     simp
     omega
   rw[this]
   simp [qb6,D.dep,qj6]
theorem qqi {l:List (Nat × Nat)} {i j:Nat}:(l.any fun p=>p.1==i && p.2==j)=decide ((i,j) ∈ l):=by
 rw[Bool.eq_iff_iff]
 simp only [List.any_eq_true,Bool.and_eq_true,beq_iff_eq,decide_eq_true_eq]
 constructor
 · rintro ⟨⟨a,b⟩,h,rfl,rfl⟩;exact h
 · intro h;exact⟨_,h,rfl,rfl⟩
theorem qwm {l:List (Nat × Nat)} {i j:Nat} {S:Sto}:qa6 .In (.tup [.int i,.int j]) (.lst (l.map qb6)) S=.ok (.bl (decide ((i,j) ∈ l))) S:=by
 show inM false (.tup [.int i,.int j]) (.lst (l.map qb6)) S=_
 simp only [inM,q3t,qqi]
 simp
theorem q0q {l:List (Nat × Nat)} {i j:Nat}:qak (some l) i j=(decide ((i,j) ∈ l) || decide ((j,i) ∈ l)):=by
 rw[← qqi,← qqi,Bool.eq_iff_iff]
 simp only [qak,List.any_eq_true,Bool.or_eq_true]
 constructor
 · rintro ⟨p,h,z | z⟩
   · exact .inl ⟨p,h,z⟩
   · exact .inr ⟨p,h,z⟩
 · rintro (⟨p,h,z⟩ | ⟨p,h,z⟩)
   · exact⟨p,h,.inl z⟩
   · exact⟨p,h,.inr z⟩
theorem q0r {ts:Option (List (Nat × Nat))} {i j:Nat} {S:Sto} {P:D→Sto→Prop} (k:P (.bl (qak ts i j)) S):Ok (qch [qaa ts,.int i,.int j] S) P:=by
 refine Ok.run ?_
 unfold qjb
 cases ts with
 | none =>
   simp only [qaa]
   ((try simp);rw[qa];try simp)
   simp [qa]
   have:((i:Int) != (j:Int))=qak none i j:=by simp only [qak];rw[Bool.eq_iff_iff];simp;omega
   rw[this];exact k
 | some l =>
   simp only [qaa]
   ((try simp);rw[qa];try simp)
   simp [qa,qbt]
   rw[qwm]
   rw[q0q]at k
   by_cases h1:(i,j) ∈ l
   · simpa [h1]using k
   · simp [h1]
     rw[qwm]
     simpa [h1]using k
theorem qqj {n:Nat} {S:Sto} {w:Nat→Int} {ts:Option (List (Nat × Nat))} {P:D→Sto→Prop} (hn:n≤100) (hw:∀ i < n,0≤w i) (ht:qep n ts)
   (k:∀ f u r G T X,Flow n w (qak ts) f u r→Walk n u f (qak ts) [] G T→(∀ j ∈ ky T,r j=0)→P (qs7 n fun i j=>f i j+f j i) (S++X)):Ok (qce [qa8 n w,qaa ts] S) fun x S1=>Ok (qd3 x S1) P:=by
 refine qs9 hn hw ht fun f u r G T X l b fl wk hr hb hl hM=> ?_
 obtain ⟨S3,e1,e2,e3⟩:=qku hM fun i j=>qci
 rw[e1,qabm]
 obtain ⟨X',rfl⟩:=qmn (S:=S) (S':=S3) (by simp at e2;omega) fun q hq=>by
   rw[e3 q (by omega) (.inl (by omega)),List.getElem?_append_left hq]
 exact k f u r G T X' fl wk hr
theorem qta {c:Cell} {S:Sto} {m:Nat} {P:D→Sto→Prop} (hc:qdi c) (hm:m≤20) (k:∀ (ts:Option (List (Nat × Nat))) c' T,qep m ts→qdi c'→P (qaa ts) (c'::(S++T))):Ok (qb4 [.ref 0,.int m] (c::S)) P:=by
 refine Ok.run ?_
 unfold qdd
 ((try simp);rw[qa];try simp)
 refine qp hc (by decide) (by decide) fun r c1 h0 h1 hc1=> ?_
 simp
 refine qdw (fun h=> ?_) fun h=> ?_
 · simp [qa]
   have:=k none c1 [] trivial hc1
   simpa [qaa]using this
 · simp [qa]
   exact qs4 hc1 hm fun ts c' T ht hl hc'=>k (some ts) c' T ⟨ht,by omega⟩ hc'
theorem q3u {ts:Option (List (Nat × Nat))} {S:Sto} {P:D→Sto→Prop} (k:P (qaa ts) S):Ok (qa3 [qaa ts] S) P:=by
 refine Ok.run ?_
 unfold qcs
 cases ts with
 | none=>simp only [qaa]at *;((try simp);rw[qa];try simp);simp [qa];exact k
 | some l=>simp only [qaa]at *;((try simp);rw[qa];try simp);simp [qa,biF,qhl];exact k
noncomputable def qx9 (n:Nat) (w:Nat→Int) (t:Nat→Nat→Bool) (v:Int):Prop:=∃ R c,Stk n w t R∧Cov n t c∧tot n R=v∧v=2 * cost n w c
theorem qx9.one {n:Nat} {w:Nat→Int} {t:Nat→Nat→Bool} {v v':Int} (a:qx9 n w t v) (b:qx9 n w t v'):v=v':=by
 obtain ⟨R,c,h1,h2,h3,h4⟩:=a
 obtain ⟨R',c',k1,k2,k3,k4⟩:=b
 have x1:=weak h1 k2
 have x2:=weak k1 h2
 omega
theorem q8r {n:Nat} {ts:Option (List (Nat × Nat))}:∀ i < n,∀ j < n,qak ts i j=qak ts j i:=fun i _ j _=>qhy
theorem qo2 {n:Nat} {w u r:Nat→Int} {ts:Option (List (Nat × Nat))} {f:Nat→Nat→Int} {G T:DL} (fl:Flow n w (qak ts) f u r) (wk:Walk n u f (qak ts) [] G T) (hr:∀ j ∈ ky T,r j=0):qx9 n w (qak ts) (2 * tot n f) :=
 ⟨_,_,q0o fl q8r,q8p wk q8r,qwj,by rw[q8q fl wk hr]⟩
theorem quy {n:Nat} {S:Sto} {w:Nat→Int} {ts:Option (List (Nat × Nat))} {P:D→Sto→Prop} {x y:D} (hx:qa8 n w=x) (hy:qaa ts=y) (hn:n≤100) (hw:∀ i < n,0≤w i) (ht:qep n ts)
   (k:∀ R X,Stk n w (qak ts) R→qx9 n w (qak ts) (tot n R)→P (qs7 n R) (S++X)):Ok (qce [x,y] S) fun x S1=>Ok (qd3 x S1) P:=by
 subst hx hy
 exact qqj hn hw ht fun f u r G T X fl wk hr=>k _ X (q0o fl q8r) (by rw[qwj];exact qo2 fl wk hr)
theorem qya {n:Nat} {w:Nat→Int} {x:D} {S:Sto} (hx:qa8 n w=x):biF (.list false) [x] S=.ok x S:=by subst hx;rfl
theorem qmr {n:Nat} {w:Nat→Int} {x:D} {S:Sto} (hx:qa8 n w=x):biF .len [x] S=.ok (.int n) S:=by subst hx;simp [qa8]
theorem qtb {α:Type} {l:List α} {e g:α→D} {p:α→Bool} {Γ:Env} {S:Sto} {src:Src} {k:Nat} {hd:D→Env→M Env} {cond:Env→M Bool} {elt:Env→M D} {Q:List D→Sto→Prop} (hs:q8 src S)
   (step:∀ x ∈ l,Ok (hd (e x) (List.replicate k none++Γ) S) fun Γ1 S1=>Ok (cond Γ1 S1) fun b S2=>b=p x∧if b=true then Ok (elt Γ1 S2) fun y S3=>y=g x∧S3=S else S2=S) (fin:Q ((l.filter p).map g) S):Ok (lcA src k hd cond elt Γ [] (l.map e) S) Q:=by
 refine qlx (fun i a S'=>S'=S∧a=((l.take i).filter p).map g) ⟨rfl,by simp⟩ (fun i a S' h=>h.1 ▸ hs) (fun i d a S' ed h=> ?_) fun a S' h=> ?_
 · obtain ⟨rfl,rfl⟩:=h
   rw[List.getElem?_map]at ed
   cases e1:l[i]? with
   | none=>rw[e1]at ed;cases ed
   | some x =>
     rw[e1]at ed
     cases ed
     refine(step x (List.mem_of_getElem? e1)).mono fun Γ1 S1 q=>q.mono fun b S2 q=> ?_
     obtain ⟨hb,q⟩:=q
     have ht:l.take (i+1)=l.take i++[x]:=by rw[List.take_succ,e1];rfl
     cases b with
     | true =>
       rw[if_pos rfl]at q ⊢
       refine q.mono fun y S3 q=> ?_
       obtain ⟨rfl,rfl⟩:=q
       exact⟨rfl,by rw[ht,List.filter_append,List.map_append];simp [← hb]⟩
     | false =>
       rw[if_neg Bool.false_ne_true]at q ⊢
       exact⟨q,by rw[ht,List.filter_append,List.map_append];simp [← hb]⟩
 · obtain ⟨rfl,rfl⟩:=h
   rw[List.length_map,List.take_length]
   exact fin
theorem qdh {α:Type} {l:List α} {e g:α→D} {Γ:Env} {S:Sto} {src:Src} {k:Nat} {hd:D→Env→M Env} {cond:Env→M Bool} {elt:Env→M D} {Q:List D→Sto→Prop} (hs:q8 src S)
   (step:∀ x ∈ l,Ok (hd (e x) (List.replicate k none++Γ) S) fun Γ1 S1=>Ok (cond Γ1 S1) fun b S2=>b=true∧Ok (elt Γ1 S2) fun y S3=>y=g x∧S3=S) (fin:Q (l.map g) S):Ok (lcA src k hd cond elt Γ [] (l.map e) S) Q:=by
 refine qtb (p:=fun _=>true) (g:=g) hs (fun x hx=> ?_) (by rw[List.filter_eq_self.mpr fun _ _=>rfl];exact fin)
 refine(step x hx).mono fun Γ1 S1 q=>q.mono fun b S2 q=> ?_
 obtain ⟨rfl,q⟩:=q
 exact⟨rfl,by rw[if_pos rfl];exact q⟩
theorem qabt {L:DL} {S:Sto}:qhj (qbj L) S=.ok (!(ky L).isEmpty) S:=by
 show M.pure (!(dks L).isEmpty) S=_
 have:(dks L).isEmpty=(ky L).isEmpty:=by cases L <;> rfl
 rw[this];rfl
theorem q0s {L:DL} {i:Nat} (h:i ∈ ky L):∃ p ∈ L,p.1=i:=List.mem_map.mp h
theorem Walk.first {n:Nat} {u:Nat→Int} {f:Nat→Nat→Int} {t:Nat→Nat→Bool} {G T:DL} (k:Walk n u f t [] G T) (hG:(ky G).isEmpty=false):∃ i < n,0 < u i:=by
 obtain ⟨a,b,B,h1,h2⟩:=k.rank
 have all:∀ m,∀ p ∈ G,a p.1 < m→∃ i < n,0 < u i:=by
   intro m
   induction m with
   | zero=>intro p _ h;omega
   | succ m ih =>
     intro p hp hm
     rcases k.srcG p hp with ⟨_,h⟩ | ⟨j,e,hj,_⟩
     · exact⟨p.1,k.ltG _ (qg5 hp),h⟩
     · obtain ⟨q,hq,rfl⟩:=q0s hj
       obtain ⟨g,e',hg,_⟩:=k.srcT q hq
       obtain ⟨p',hp',rfl⟩:=q0s hg
       have x1:=(h1 p hp).2 _ e
       have x2:=(h2 q hq).2 _ e'
       exact ih p' hp' (by omega)
 cases G with
 | nil=>cases hG
 | cons p G=>exact all _ p (by simp) (Nat.lt_succ_self _)
theorem q0t {n:Nat} {w u r:Nat→Int} {t:Nat→Nat→Bool} {f:Nat→Nat→Int} (fl:Flow n w t f u r):tot n f+sm n u=sm n w:=by
 unfold tot;rw[← qck];exact qal fl.row
theorem qqk {g:Nat→Int}:∀ {n i:Nat},(∀ i < n,0≤g i)→i < n→0 < g i→0 < sm n g
 | 0,_,_,hi,_=>by omega
 | n+1,i,h,hi,h0=>by
   rw[sm]
   have h1:=qd9 fun i (hi:i < n)=>h i (by omega)
   have h2:=h n (by omega)
   by_cases e:i=n
   · subst e;omega
   · have:=qqk (fun i hi=>h i (by omega)) (show i < n by omega) h0;omega
theorem q3v {g:Nat→Int} {n:Nat} (h:∀ i < n,0≤g i) (e:sm n g=0):∀ i < n,g i=0:=fun i hi=>by
 have h0:=h i hi
 by_cases z:0 < g i
 · have:=qqk h hi z;omega
 · omega
structure q4y (S:Sto) (x:D) (n:Nat) (w:Nat→Int):Prop where
 len:biF .len [x] S=.ok (.int n) S
 ix:∀ i < n,ixM (look x S) (.int i) S=.ok (.int (w i)) S
structure q8s (S:Sto) (y:D) (n:Nat) (R:Nat→Nat→Int) (ρ:Nat→D):Prop where
 ix:∀ i < n,ixM (look y S) (.int i) S=.ok (ρ i) S
 at_:∀ i < n,∀ j < n,ixM (look (ρ i) S) (.int j) S=.ok (.int (R i j)) S
 sum:∀ i < n,biF .sum [ρ i] S=.ok (.int (sm n (R i))) S
theorem qwn {S:Sto} {n:Nat} {w:Nat→Int} {x:D} (hx:qa8 n w=x):q4y S x n w:=by
 subst hx
 exact⟨qmr rfl,fun i hi=>by show ixM (.lst (vec n fun i=>.int (w i))) (.int i) S=_;rw[qlv,qbe hi]⟩
theorem q0u {S:Sto} {n:Nat} {R:Nat→Nat→Int} {y:D} (hy:qs7 n R=y):q8s S y n R fun i=>qa8 n (R i):=by
 subst hy
 exact⟨fun i hi=>by show ixM (.lst (vec n fun i=>qa8 n (R i))) (.int i) S=_;rw[qlv,qbe hi],fun i hi j hj=>by show ixM (.lst (vec n fun j=>.int (R i j))) (.int j) S=_;rw[qlv,qbe hj],fun i _=>qwk⟩
theorem q0v {l:Nat} {S:Sto} {xs:List D} (h:S[l]? =some (.lst xs)):biF (.list false) [.ref l] S=.ok (.lst xs) S:=by
 show qhl false [.ref l] S=_
 unfold qhl
 dsimp only
 rw[qh h]
 rfl
theorem Mat.box {c c':Cell} {T:Sto} {l b n m:Nat} {f:Nat→Nat→D} (h:Mat (c::T) l b n m f) (hb:1≤b) (hl:1≤l):Mat (c'::T) l b n m f:=by
 refine h.keep fun k hk=> ?_
 cases k with
 | zero=>omega
 | succ k=>rfl
structure qtc (n:Nat) (t:Nat→Nat→Bool) (R:Nat→Nat→Int):Prop where
 pos:∀ i < n,∀ j < n,0≤R i j
 sym:∀ i < n,∀ j < n,R i j=R j i
 tie:∀ i < n,∀ j < n,R i j ≠ 0→t i j=true
 ev:∀ i < n,∀ j < n,∃ a,R i j=2 * a
theorem qtc.put {n:Nat} {t:Nat→Nat→Bool} {R:Nat→Nat→Int} (p:qtc n t R) (ts:∀ i j,t i j=t j i) {i j:Nat} {a:Int} (ht:t i j=true) (h0:0≤a):qtc n t fun x y=>if x=j∧y=i then 2 * a else if x=i∧y=j then 2 * a else R x y:=by
 refine⟨fun x hx y hy=> ?_,fun x hx y hy=> ?_,fun x hx y hy h=> ?_,fun x hx y hy=> ?_⟩
 · have:=p.pos x hx y hy;split <;> (try split) <;> omega
 · have:=p.sym x hx y hy
   by_cases h1:x=j∧y=i <;> by_cases h2:x=i∧y=j <;> by_cases h3:y=j∧x=i <;> by_cases h4:y=i∧x=j <;> simp [h1,h2,h3,h4] <;> omega
 · by_cases h1:x=j∧y=i
   · rw[h1.1,h1.2,ts];exact ht
   · by_cases h2:x=i∧y=j
     · rw[h2.1,h2.2];exact ht
     · rw[if_neg h1,if_neg h2]at h;exact p.tie x hx y hy h
 · split
   · exact⟨a,rfl⟩
   · split
     · exact⟨a,rfl⟩
     · exact p.ev x hx y hy
theorem quz {c:Cell} {S:Sto} {n:Nat} {ts:Option (List (Nat × Nat))} {P:D→Sto→Prop} (hc:qdi c) (hn:n≤20) (k:∀ R c' X,qtc n (qak ts) R→qdi c'→P (qs7 n R) (c'::(S++X))):Ok (qcp [.ref 0,.int n,qaa ts] (c::S)) P:=by
 refine Ok.run ?_
 unfold qdx
 generalize hy:qaa ts=y
 have are:∀ (i j:Nat) S (P:D→Sto→Prop),P (.bl (qak ts i j)) S→Ok (qch [y,.int i,.int j] S) P:=fun i j S P k=>by subst hy;exact q0r k
 ((try simp);rw[qa];try simp)
 simp [qz9 (show qpc 10 15 from ⟨by decide,by decide,by decide⟩),qdf]
 refine qp hc (by decide) (by decide) fun q c1 q0 q1 hc1=> ?_
 obtain ⟨m,e1,m0,m1⟩:∃ m:Int,atI [D.int 6,.int 1000,.int 1000000000000000] q=some (.int m)∧1≤m∧m≤10 ^ 15:=by
   have:q=0∨q=1∨q=2:=by omega
   rcases this with rfl | rfl | rfl
   · exact⟨6,by simp,by decide,by decide⟩
   · exact⟨1000,by simp,by decide,by decide⟩
   · exact⟨10 ^ 15,by simp,by decide,by decide⟩
 simp [e1]
 ((try simp);rw[qa];try simp)
 rw[qbd (qb5 hn),qcz]
 simp
 refine⟨qt (by omega),quu (Φ:=[]) (fn:=[]) (n:=n) (m:=n) (x:=.int 0) (by simp) (fun _=>qq) (fun d hd T=> ?_) ?_⟩
 · simp [qdf,qqe (show n≤1000 by omega)]
 have h0:=qwg (S:=c1::S) (n:=n) (m:=n) (x:=.int 0) rfl
 rw[show (c1::S).length+n=S.length+n+1 by simp;omega]at h0
 simp at h0 ⊢
 generalize hT:S++((vec n fun _=>Cell.lst (vec n fun _=>D.int 0))++[Cell.lst (vec n fun i=>.ref (S.length+1+i))])=T at h0 ⊢
 have hl:S.length≤T.length:=by rw[← hT];simp
 have hk:∀ q < S.length,T[q]? =S[q]? :=fun q hq=>by rw[← hT,List.getElem?_append_left hq]
 clear hT
 ((try simp);rw[qa];try simp)
 rw[qbd (qb5 hn),qcz]
 simp
 obtain ⟨J,hJ⟩:∃ J:Option Nat→Env→Sto→Prop,∀ o Γ S',J o Γ S'↔∃ (v:Option D) (v5:Option D) (c2:Cell) (T:Sto) (R:Nat→Nat→Int),Γ=[some (.ref 0),some (.int n),some y,some (.int m),some (.ref (S.length+n+1)),v5,v]∧(∀ i,o=some i→v5=some (.int i))∧S'=c2::T∧qdi c2∧Mat (c2::T) (S.length+n+1) (S.length+1) n n (fun i j=>.int (R i j))∧qtc n (qak ts) R∧S.length≤T.length∧∀ q < S.length,T[q]? =S[q]? :=⟨_,fun _ _ _=>Iff.rfl⟩
 refine qa5 (fun _=>J none) ((hJ _ _ _).mpr ⟨_,_,c1,T,fun _ _=>0,rfl,(fun _ h=>by cases h),rfl,hc1,h0,⟨fun _ _ _ _=>by simp,fun _ _ _ _=>rfl,fun _ _ _ _ h=>absurd rfl h,fun _ _ _ _=>⟨0,rfl⟩⟩,hl,hk⟩) (fun _ _ _ _=>qq) (fun i d Γ S' e h=> ?_) fun Γ S' h=> ?_
 · obtain ⟨v6,v5,c2,T,R,rfl,_,rfl,hc2,hM,hP,hl,hk⟩:=(hJ _ _ _).mp h
   obtain ⟨hi,rfl⟩:=qg4 e
   simp
   ((try simp);rw[qa];try simp)
   rw[qbd (qb5 (show i≤20 by omega)),qcz]
   simp
   refine qa5 (fun _=>J (some i)) ((hJ _ _ _).mpr ⟨_,_,c2,T,R,rfl,(fun _ h=>by cases h;rfl),rfl,hc2,hM,hP,hl,hk⟩) (fun _ _ _ _=>qq) (fun j d Γ S' e h=> ?_) fun Γ S' h=> ?_
   · obtain ⟨v6,v5,c2,T,R,rfl,h5,rfl,hc2,hM,hP,hl,hk⟩:=(hJ _ _ _).mp h
     rw[h5 i rfl]
     clear h5 h
     obtain ⟨hj,rfl⟩:=qg4 e
     have hj':j < n:=by omega
     ((try simp);rw[qa];try simp)
     refine are i j _ _ ?_
     cases htt:qak ts i j with
     | false=>simp;exact(hJ _ _ _).mpr ⟨_,_,c2,T,R,rfl,(fun _ h=>by cases h;rfl),rfl,hc2,hM,hP,hl,hk⟩
     | true =>
       ((try simp);rw[qa];try simp)
       refine qp hc2 (by omega) (by omega) fun a c3 a0 a1 hc3=> ?_
       rw[qlu (qwd (by decide) (by decide))]
       simp
       refine qp hc3 (by decide) (by decide) fun b c4 b0 b1 hc4=> ?_
       simp [qsg]
       rw[qlu (qwd (by omega) (by omega))]
       simp
       have hM:=hM.box (c':=c4) (by omega) (by omega)
       rw[hM.ix hi]
       simp
       rw[hM.put hi hj']
       have hM1:=hM.set (j:=j) hi (.int (2 * a * (b % 2)))
       ((try simp);rw[qa];try simp)
       rw[hM1.ix hi]
       simp
       rw[hM1.get hi hj']
       simp
       rw[hM1.ix hj']
       simp
       rw[hM1.put hj' hi]
       have hM2:=hM1.set (j:=i) hj' (.int (2 * a * (b % 2)))
       simp
       have es:∀ (i:Nat) x (T:Sto),(c4::T).set (S.length+1+i) x=c4::T.set (S.length+i) x:=fun i x T=>by
         rw[show S.length+1+i=(S.length+i)+1 by omega];rfl
       rw[es,es]at hM2 ⊢
       have hb:0≤b % 2∧b % 2≤1:=by omega
       refine(hJ _ _ _).mpr ⟨_,_,c4,_,fun x z=>if x=j∧z=i then 2 * (a * (b % 2))else if x=i∧z=j then 2 * (a * (b % 2))else R x z,rfl,(fun _ h=>by cases h;rfl),rfl,hc4,hM2.cong fun x z _ _=> ?_,hP.put (fun i j=>qhy) htt (Int.mul_nonneg a0 hb.1),by simpa using hl,fun q hq=> ?_⟩
       · rw[Int.mul_assoc]
         by_cases q1:x=j∧z=i
         · simp [q1]
         · by_cases q2:x=i∧z=j
           · simp [q1,q2]
           · simp [q1,q2]
       · rw[List.getElem?_set_ne (by omega),List.getElem?_set_ne (by omega)];exact hk q hq
   · exact(hJ _ _ _).mpr (by
       obtain ⟨v6,v5,c2,T,R,h1,_,h2⟩:=(hJ _ _ _).mp h
       exact⟨v6,v5,c2,T,R,h1,(fun _ z=>by cases z),h2⟩)
 · obtain ⟨v6,v5,c2,T,R,rfl,_,rfl,hc2,hM,hP,hl,hk⟩:=(hJ _ _ _).mp h
   obtain ⟨S3,e1,e2,e3⟩:=qku hM fun i j=>qci
   simp [qa,e1]
   have h0:S3[0]? =some c2:=by rw[e3 0 (by omega) (by omega)];rfl
   obtain ⟨X,rfl⟩:=qmn (S:=c2::S) (S':=S3) (by simp at e2;simp;omega) fun q hq=>by
     cases q with
     | zero=>exact h0
     | succ q =>
       have hq:q < S.length:=by simpa using hq
       rw[e3 _ (by omega) (.inl (by omega))]
       exact hk q hq
   exact k R c2 X hP hc2
noncomputable def At (S:Sto) (x:D) (xs:List D):Prop:=x=.lst xs∨∃ l,x=.ref l∧S[l]? =some (.lst xs)
section
variable {S:Sto} {x y z:D} {xs:List D} {n:Nat} {w c:Nat→Int} {R:Nat→Nat→Int} {P:D→Sto→Prop} {ts:Option (List (Nat × Nat))}
theorem At.look (h:At S x xs):look x S=.lst xs:=by
 rcases h with rfl | ⟨l,rfl,h⟩
 · rfl
 · exact qh h
theorem At.len (h:At S x xs):biF .len [x] S=.ok (.int xs.length) S:=by
 rcases h with rfl | ⟨l,rfl,h⟩
 · simp
 · exact q3n h
theorem At.isl (h:At S x xs):biF .isi [x,.ty "list"] S=.ok (.bl true) S:=by
 show qsd [x,.ty "list"] S=_
 unfold qsd
 dsimp only
 rw[h.look]
 rfl
theorem At.list (h:At S x xs):biF (.list false) [x] S=.ok (.lst xs) S:=by
 rcases h with rfl | ⟨l,rfl,h⟩
 · rfl
 · exact q0v h
theorem At.seq (h:At S x xs):∃ src,qm x S=.ok (xs,src) S∧q8 src S:=by
 rcases h with rfl | ⟨l,rfl,h⟩
 · exact⟨_,rfl,qq⟩
 · refine⟨[(l,.lst xs)],by unfold qm;dsimp only;rw[h],fun p hp=> ?_⟩
   rw[List.mem_singleton.mp hp];exact h
theorem qql (h:At S x (vec n fun i=>.int (c i))) (hn:n≤100) (k:P (.bl true) S):Ok (qba [x,.int n] S) P:=by
 obtain ⟨src,e1,e2⟩:=h.seq
 refine Ok.run ?_
 unfold qcf
 ((try simp);rw[qa];try simp)
 rw[h.isl]
 simp
 rw[h.len]
 simp [qa]
 rw[e1]
 simp
 refine⟨qt (by omega),qf5 (g:=fun _=>.bl true) e2 (fun i hi=> ?_) ?_⟩
 · simp
 · rw[qwl];simpa using k
end
section
variable {S:Sto} {n:Nat} {w c:Nat→Int} {R:Nat→Nat→Int} {t:Nat→Nat→Bool} {P:D→Sto→Prop} {ts:Option (List (Nat × Nat))} {x y z u:D}
theorem q3w {f g:Nat→D}:qe2 (vec n f) (vec n g)=vec n fun i=>.tup [f i,g i]:=by
 refine List.ext_getElem? fun k=> ?_
 rw[qdq]
 by_cases h:k < n
 · rw[if_pos h,qps (qfq h) (qfq h)]
 · rw[if_neg h,List.getElem?_eq_none_iff]
   have:∀ (xs ys:List D),(qe2 xs ys).length≤xs.length:=by
     intro xs
     induction xs with
     | nil=>intro ys;simp [qe2]
     | cons x xs ih=>intro ys;cases ys <;> simp [qe2];exact ih _
   have:=this (vec n f) (vec n g)
   simp at this;omega
end
mutual
noncomputable def D.pln:D→Bool
 | .non=>true
 | .bl _=>true
 | .int _=>true
 | .str _=>true
 | .lst xs=>qje xs
 | .tup xs=>qje xs
 | _=>false
noncomputable def qje:List D→Bool
 | []=>true
 | d::ds=>d.pln && qje ds
end
mutual
theorem qtd:∀ (d:D),d.pln=true→eqD d d=some true
 | .non,_=>rfl
 | .bl b,_=>by simp [eqD,D.flat,eqV]
 | .int i,_=>by simp [eqD,D.flat,eqV]
 | .str x,_=>by simp [eqD,D.flat,eqV]
 | .lst xs,h=>by rw[eqD];simp;exact qjf xs (by rw[D.pln]at h;exact h)
 | .tup xs,h=>by rw[eqD];simp;exact qjf xs (by rw[D.pln]at h;exact h)
 | .ty _,h=>by simp [D.pln]at h
 | .at_ _,h=>by simp [D.pln]at h
 | .ref _,h=>by simp [D.pln]at h
 | .dct _ _,h=>by simp [D.pln]at h
 | .obj _ _ _,h=>by simp [D.pln]at h
theorem qjf:∀ (ds:List D),qje ds=true→qa9 ds ds=some true
 | [],_=>by simp [qa9]
 | d::ds,h=>by
   rw[qje,Bool.and_eq_true]at h
   rw[qa9,qtd d h.1,qjf ds h.2]
   rfl
end
theorem q0w {n:Nat} {g:Nat→D} (h:∀ i < n,(g i).pln=true):qje (vec n g)=true:=by
 induction n with
 | zero=>rfl
 | succ n ih =>
   rw[qb7]
   have:∀ (xs:List D) (d:D),qje (xs++[d])=(qje xs && d.pln):=by
     intro xs d
     induction xs with
     | nil=>simp [qje]
     | cons x xs ih=>rw[List.cons_append,qje,ih,qje,Bool.and_assoc]
   rw[this,ih fun i hi=>h i (by omega),h n (by omega)];rfl
theorem qqm {k:Nat}:∀ {ds:List D},(∀ d ∈ ds,d.dep≤k)→qj6 ds≤k
 | [],_=>by simp [qj6]
 | d::ds,h=>by
   rw[qj6]
   have:=h d (by simp)
   have:=qqm fun x (hx:x ∈ ds)=>h x (by simp [hx])
   omega
theorem qte {n:Nat} {w:Nat→Int}:(qa8 n w).pln=true:=by unfold qa8;rw[D.pln];exact q0w fun i _=>by simp [D.pln]
theorem qtf {n:Nat} {w:Nat→Int}:(qa8 n w).dep≤1:=by
 unfold qa8;rw[D.dep]
 have:=qqm (k:=0) (ds:=vec n fun i=>D.int (w i)) fun d hd=>by obtain ⟨i,_,rfl⟩:=qwe hd;simp [D.dep]
 omega
theorem q0x {ts:Option (List (Nat × Nat))}:(qaa ts).pln=true:=by
 cases ts with
 | none=>rfl
 | some l =>
   unfold qaa;dsimp only;rw[D.pln]
   induction l with
   | nil=>rfl
   | cons p l ih=>rw[List.map_cons,qje,ih];simp [qb6,D.pln,qje]
theorem q0y {ts:Option (List (Nat × Nat))}:(qaa ts).dep≤2:=by
 cases ts with
 | none=>simp [qaa,D.dep]
 | some l =>
   unfold qaa;dsimp only;rw[D.dep]
   have:=qqm (k:=1) (ds:=l.map qb6) fun d hd=>by
     obtain ⟨p,_,rfl⟩:=List.mem_map.mp hd
     simp [qb6,D.dep,qj6]
   omega
theorem q4z {a b:Bool} {S:Sto}:qa6 .NotEq (.bl a) (.bl b) S=.ok (.bl (a != b)) S:=by cases a <;> cases b <;> rfl
theorem qabu {a b:Bool} {S:Sto}:qa6 .Eq (.bl a) (.bl b) S=.ok (.bl (a==b)) S:=by cases a <;> cases b <;> rfl
section
variable {S:Sto} {P:D→Sto→Prop} {n:Nat} {t:Nat→Int} {a b:Int} {x y z:D}
end
section
variable {S:Sto} {P:D→Sto→Prop} {n:Nat} {t:Nat→Int} {x y z:D} {B R:Nat→Nat→Int}
end
section
variable {w:Nat→Int} {n:Nat}
end
@[simp] theorem qac1 {d:Nat}:qg [qas d] (qgq d) 0=qv 2 (qas d):=(rfl)
theorem same_int {m:Nat} {a:Int} {S:Sto} {P:D→Sto→Prop} (k:P (.bl true) S):Ok (qas (m+1) [.int a,.int a] S) P:=by
 unfold qas
 refine Ok.run ?_
 unfold qen
 have i1:∀ (b:Int) S,biF .isi [.int b,.ty "list"] S=.ok (.bl false) S:=fun _ _=>rfl
 have i2:∀ (b:Int) S,biF .isi [.int b,.ty "tuple"] S=.ok (.bl false) S:=fun _ _=>rfl
 have i5:∀ (b:Int) S,biF .isi [.int b,.ty "str"] S=.ok (.bl false) S:=fun _ _=>rfl
 have i6:∀ (b:Int) S,qa6 .Is (.int b) .non S=.ok (.bl false) S:=fun _ _=>rfl
 ((try simp);rw[qa];try simp [i1,i2])
 ((try simp);rw[qa];try simp [i6])
 ((try simp);rw[qa];try simp [q4z])
 ((try simp);rw[qa];try simp [i5,qabu])
 exact k
theorem q0z {m n:Nat} {w:Nat→Int} {S:Sto} {P:D→Sto→Prop} {x:D} (hx:qa8 n w=x) (hn:n≤100) (k:P (.bl true) S):Ok (qas (m+2) [x,x] S) P:=by
 have i1:∀ S,biF .isi [x,.ty "list"] S=.ok (.bl true) S:=fun _=>by subst hx;rfl
 have i2:∀ S,biF .isi [x,.ty "tuple"] S=.ok (.bl false) S:=fun _=>by subst hx;rfl
 have hz:∀ S,qfi [x,x] S=.ok (vec n fun i=>.tup [.int (w i),.int (w i)],[]) S:=fun S=>by
   subst hx
   show qfi [.lst (vec n fun i=>.int (w i)),.lst (vec n fun i=>.int (w i))] S=_
   simp [qfi,qm,M.bind]
   rw[q3w]
 unfold qas
 refine Ok.run ?_
 unfold qen
 ((try simp);rw[qa];try simp [i1])
 ((try simp);rw[qa];try simp [i1,i2,q4z])
 ((try simp);rw[qa];try simp)
 rw[qmr hx]
 simp
 rw[qmr hx]
 simp
 rw[hz]
 simp
 refine⟨qt (by omega),qf5 (g:=fun _=>.bl true) qq (fun i hi=> ?_) ?_⟩
 · simp
   exact same_int ⟨rfl,rfl⟩
 · rw[qwl];simp;exact k
mutual
noncomputable def D.sh (n:Nat):D→D
 | .ref l=>.ref (l+n)
 | .lst xs=>.lst (shs n xs)
 | .tup xs=>.tup (shs n xs)
 | .dct ks xs=>.dct ks (shs n xs)
 | .obj C fs xs=>.obj C fs (shs n xs)
 | .non=>.non
 | .bl b=>.bl b
 | .int i=>.int i
 | .str x=>.str x
 | .ty t=>.ty t
 | .at_ a=>.at_ a
noncomputable def shs (n:Nat):List D→List D
 | []=>[]
 | d::ds=>d.sh n::shs n ds
end
theorem qhz {n:Nat}:∀ xs:List D,shs n xs=xs.map (D.sh n)
 | []=>by simp [shs]
 | x::xs=>by simp [shs,qhz xs]
@[simp] theorem qeq {n l:Nat}:(D.ref l).sh n=.ref (l+n):=by rw[D.sh]
@[simp] theorem qa4 {n:Nat} {xs:List D}:(D.lst xs).sh n=.lst (xs.map (D.sh n)):=by rw[D.sh,qhz]
@[simp] theorem qer {n:Nat} {xs:List D}:(D.tup xs).sh n=.tup (xs.map (D.sh n)):=by rw[D.sh,qhz]
@[simp] theorem qd0 {n:Nat} {ks:List Key} {xs:List D}:(D.dct ks xs).sh n=.dct ks (xs.map (D.sh n)):=by rw[D.sh,qhz]
@[simp] theorem qu0 {n:Nat} {C:Addr} {fs:List Str} {xs:List D}:(D.obj C fs xs).sh n=.obj C fs (xs.map (D.sh n)):=by rw[D.sh,qhz]
@[simp] theorem qqn {n:Nat}:D.non.sh n=.non:=by rw[D.sh]
@[simp] theorem qtg {n:Nat} {b:Bool}:(D.bl b).sh n=.bl b:=by rw[D.sh]
@[simp] theorem qab {n:Nat} {b:Int}:(D.int b).sh n=.int b:=by rw[D.sh]
@[simp] theorem qes {n:Nat} {b:Str}:(D.str b).sh n=.str b:=by rw[D.sh]
@[simp] theorem qwo {n:Nat} {b:String}:(D.ty b).sh n=.ty b:=by rw[D.sh]
@[simp] theorem q00 {n:Nat} {b:Addr}:(D.at_ b).sh n=.at_ b:=by rw[D.sh]
noncomputable def Cell.sh (n:Nat):Cell→Cell
 | .gone=>.gone
 | .lst xs=>.lst (xs.map (D.sh n))
 | .dct ks xs=>.dct ks (xs.map (D.sh n))
 | .obj C fs xs=>.obj C fs (xs.map (D.sh n))
noncomputable abbrev up (P S:Sto):Sto:=P++S.map (Cell.sh P.length)
noncomputable abbrev eS (n:Nat) (Γ:Env):Env:=Γ.map (Option.map (D.sh n))
noncomputable def Sim {α:Type} (P:Sto) (f:α→α) (m m':M α):Prop:=∀ S a S',m S=.ok a S'→m' (up P S)=.ok (f a) (up P S')
section
variable {P:Sto}
theorem qms {S:Sto} {l:Nat}:(up P S)[l+P.length]? =(S[l]?).map (Cell.sh P.length):=by
 rw[List.getElem?_append_right (by omega)];simp
theorem qqo {S:Sto} {l:Nat} {c:Cell}:(up P S).set (l+P.length) (c.sh P.length)=up P (S.set l c):=by
 rw[List.set_append_right _ _ (by omega)];simp [List.map_set]
theorem qau {d:D} {S:Sto}:look (d.sh P.length) (up P S)=(look d S).sh P.length:=by
 cases d <;> try simp [look]
 rename_i l
 rw[qms]
 cases e:S[l]? with
 | none=>simp
 | some c=>cases c <;> simp [Cell.sh]
theorem q3x {S:Sto} {c:Cell}:up P S++[c.sh P.length]=up P (S++[c]):=by simp
theorem q3y {n:Nat} {d:D}:(d.sh n).cell=d.cell.sh n:=by cases d <;> simp [D.cell,Cell.sh]
theorem Sim.pure {α:Type} {f:α→α} {a:α}:Sim P f (M.pure a) (M.pure (f a)):=by
 intro S b S' h;cases h;rfl
theorem Sim.pure' {α:Type} {f:α→α} {a b:α} (h:b=f a):Sim P f (M.pure a) (M.pure b):=by subst h;exact Sim.pure
theorem Sim.fail {α:Type} {f:α→α} {m:M α}:Sim P f M.fail m:=by intro S b S' h;cases h
theorem Sim.bind {α β:Type} {f:α→α} {g:β→β} {m m':M α} {k k':α→M β} (h:Sim P f m m') (hk:∀ a,Sim P g (k a) (k' (f a))):Sim P g (M.bind m k) (M.bind m' k'):=by
 intro S b S' e
 unfold M.bind at e ⊢
 cases e1:m S with
 | ok a S1=>rw[e1]at e;rw[h _ _ _ e1];exact hk a _ _ _ e
 | err x S1=>rw[e1]at e;cases e
 | no=>rw[e1]at e;cases e
theorem Sim.ite {α:Type} {f:α→α} {c:Bool} {m m' k k':M α} (h:Sim P f m m') (h':Sim P f k k'):Sim P f (if c=true then m else k) (if c=true then m' else k'):=by
 cases c
 · exact h'
 · exact h
theorem Sim.seeing {α:Type} {f:α→α} {d:D} {k k':D→M α} (h:∀ x,Sim P f (k x) (k' (x.sh P.length))):Sim P f (fun S=>k (look d S) S) (fun S=>k' (look (d.sh P.length) S) S):=by
 intro S a S' e
 dsimp only at e ⊢
 rw[qau];exact h _ _ _ _ e
theorem s_alloc {new:Bool} {d:D}:Sim P (D.sh P.length) (alloc new d) (alloc new (d.sh P.length)):=by
 intro S a S' e
 unfold alloc at e ⊢
 cases new
 · cases e;rfl
 · cases e;rw[if_pos rfl,q3y,q3x];simp [Nat.add_comm]
theorem qbk {new:Bool} {ds es:List D} (h:es=ds.map (D.sh P.length)):Sim P (D.sh P.length) (alloc new (.lst ds)) (alloc new (.lst es)):=by
 subst h;have:=s_alloc (P:=P) (new:=new) (d:=.lst ds);rwa [qa4]at this
end
@[simp] theorem qwp {n:Nat} {d:D}:(d.sh n).flat=d.flat:=by cases d <;> simp [D.flat]
mutual
theorem qu1 {n:Nat}:∀ x y:D,eqD (x.sh n) (y.sh n)=eqD x y
 | .lst xs,y=>by
   cases y <;> simp [eqD,D.flat]
   rename_i ys
   rw[qqp xs ys]
 | .tup xs,y=>by
   cases y <;> simp [eqD,D.flat]
   rename_i ys
   rw[qqp xs ys]
 | .non,y=>by simp [eqD]
 | .bl b,y=>by simp [eqD]
 | .int i,y=>by simp [eqD]
 | .str x,y=>by simp [eqD]
 | .ty _,y=>by simp [eqD]
 | .at_ _,y=>by simp [eqD]
 | .ref _,y=>by simp [eqD]
 | .dct _ _,y=>by simp [eqD]
 | .obj _ _ _,y=>by simp [eqD]
theorem qqp {n:Nat}:∀ xs ys:List D,qa9 (xs.map (D.sh n)) (ys.map (D.sh n))=qa9 xs ys
 | [],ys=>by cases ys <;> simp [qa9]
 | x::xs,ys=>by
   cases ys with
   | nil=>simp [qa9]
   | cons y ys=>simp only [List.map_cons,qa9];rw[qu1 x y,qqp xs ys]
end
mutual
theorem qu2 {n:Nat}:∀ x:D,(x.sh n).dep=x.dep
 | .lst xs=>by simp [D.dep,qqq xs]
 | .tup xs=>by simp [D.dep,qqq xs]
 | .non=>by simp
 | .bl b=>by simp
 | .int i=>by simp
 | .str x=>by simp
 | .ty _=>by simp
 | .at_ _=>by simp
 | .ref _=>by simp [D.dep]
 | .dct _ _=>by simp [D.dep]
 | .obj _ _ _=>by simp [D.dep]
theorem qqq {n:Nat}:∀ xs:List D,qj6 (xs.map (D.sh n))=qj6 xs
 | []=>by simp
 | x::xs=>by simp [qj6,qu2 x,qqq xs]
end
@[simp] theorem qh0 {n:Nat} {d:D}:keyOf (d.sh n)=keyOf d:=by cases d <;> simp [keyOf]
theorem qqr {n:Nat} {d:D}:∀ es:List D,qc8 (d.sh n) (es.map (D.sh n))=qc8 d es
 | []=>by simp [qc8]
 | e::es=>by simp only [List.map_cons,qc8];rw[qu1,qqr es,qu2]
@[simp] theorem qc2 {n:Nat}:∀ xs:List D,intsOf (xs.map (D.sh n))=intsOf xs
 | []=>rfl
 | x::xs=>by cases x <;> simp [intsOf,qc2 xs]
@[simp] theorem qmt {n:Nat}:∀ xs:List D,qa0 (xs.map (D.sh n))=qa0 xs
 | []=>rfl
 | x::xs=>by cases x <;> simp [qa0,qmt xs]
@[simp] theorem qo3 {n:Nat}:∀ xs:List D,strsOf (xs.map (D.sh n))=strsOf xs
 | []=>rfl
 | x::xs=>by cases x <;> simp [strsOf,qo3 xs]
@[simp] theorem q3z {α β:Type} (f:α→β) {xs:List α} {i:Int}:atI (xs.map f) i=(atI xs i).map f:=by
 unfold atI;rw[List.length_map];cases ixN xs.length i <;> simp
theorem qth {f:D→D} {k:Key}:∀ (ks:List Key) (xs:List D),qfe ks (xs.map f) k=(qfe ks xs k).map f
 | [],_=>by simp [qfe]
 | _::_,[]=>by simp [qfe]
 | j::ks,x::xs=>by
   simp only [List.map_cons,qfe]
   split
   · rfl
   · exact qth ks xs
theorem qo4 {f:D→D} {k:Key} {v:D}:∀ (ks:List Key) (xs:List D),qd1 k (f v) ks (xs.map f)=(qd1 k v ks xs).map f
 | [],_=>by simp [qd1]
 | _::_,[]=>by simp [qd1]
 | j::ks,x::xs=>by
   simp only [List.map_cons,qd1,qo4 ks xs]
   split <;> rfl
theorem qo5 {f:D→D} {k:Key} {v:D} {ks:List Key} {xs:List D}:qax ks (xs.map f) k (f v)=(qax ks xs k v).map f:=by
 unfold qax
 split
 · exact qo4 ks xs
 · simp
theorem qwq {f:D→D} {xs:List D} {lo hi:Option Int}:cutD (xs.map f) lo hi=(cutD xs lo hi).map f:=by
 unfold cutD;simp [List.map_drop,List.map_take]
theorem qti {n:Nat}:∀ (xs ys:List D),qe2 (xs.map (D.sh n)) (ys.map (D.sh n))=(qe2 xs ys).map (D.sh n)
 | [],_=>by simp [qe2]
 | _::_,[]=>by simp [qe2]
 | x::xs,y::ys=>by simp [qe2,qti xs ys]
theorem qyb {n:Nat} (xs:List D):qfh (xs.map (D.sh n))=(qfh xs).map (D.sh n):=by
 unfold qfh
 rw[List.length_map,List.map_map]
 refine List.map_congr_left fun i hi=> ?_
 have hi:i < xs.length:=by simpa using hi
 simp [List.getD,hi]
theorem qwr {n:Nat} {lo:Int} {k:Nat}:(qd2 lo k).map (D.sh n)=qd2 lo k:=by simp [qd2]
theorem qtj {n:Nat} (ks:List Key):(ks.map qga).map (D.sh n)=ks.map qga:=by
 rw[List.map_map];refine List.map_congr_left fun k _=> ?_
 cases k <;> simp [qga]
theorem qtk {n:Nat} (ns:List Int):(ns.map D.int).map (D.sh n)=ns.map D.int:=by simp
section
variable {P:Sto}
theorem qabv {new:Bool} (x y:D):Sim P (D.sh P.length) (qxj new x y) (qxj new (x.sh P.length) (y.sh P.length)):=by
 cases x <;> cases y <;> first | exact Sim.fail | (simp only [qab,qes,qa4,qer,qxj,List.length_map];first | (refine Sim.ite ?_ Sim.fail;first | exact Sim.pure' (by simp) | exact qbk (by simp)) | exact Sim.pure' (by simp) | skip)
 rw[List.isEmpty_map]
 exact Sim.ite (Sim.pure' (by simp)) Sim.fail
theorem q40 (x y:D):Sim P (D.sh P.length) (qxk x y) (qxk (x.sh P.length) (y.sh P.length)):=by
 cases x <;> cases y <;> first | exact Sim.fail | (simp only [qab,qxk];exact Sim.pure' (by simp))
theorem qabw {new:Bool} (x y:D):Sim P (D.sh P.length) (qxl new x y) (qxl new (x.sh P.length) (y.sh P.length)):=by
 cases x <;> cases y <;> first | exact Sim.fail | (simp only [qab,qa4,qxl,List.length_map];refine Sim.ite ?_ Sim.fail;first | exact Sim.pure' (by simp) | exact qbk (by rw[List.map_flatten,List.map_replicate]))
theorem qabx (x y:D):Sim P (D.sh P.length) (qzf x y) (qzf (x.sh P.length) (y.sh P.length)):=by
 cases x <;> cases y <;> first | exact Sim.fail | (simp only [qab,qzf];exact Sim.ite (Sim.pure' (by simp)) Sim.fail)
theorem qaby (x y:D):Sim P (D.sh P.length) (qzg x y) (qzg (x.sh P.length) (y.sh P.length)):=by
 cases x <;> cases y <;> first | exact Sim.fail | (simp only [qab,qzg];exact Sim.ite (Sim.pure' (by simp)) Sim.fail)
theorem qabz (x y:D):Sim P (D.sh P.length) (qzh x y) (qzh (x.sh P.length) (y.sh P.length)):=by
 cases x <;> cases y <;> first | exact Sim.fail | (simp only [qab,qzh];exact Sim.ite (Sim.pure' (by simp)) Sim.fail)
theorem qet {f f':D→D→M D} (h:∀ x y,Sim P (D.sh P.length) (f x y) (f' (x.sh P.length) (y.sh P.length))) (x y:D):Sim P (D.sh P.length) (seen f x y) (seen f' (x.sh P.length) (y.sh P.length)):=by
 intro S a S' e
 unfold seen at e ⊢
 rw[qau,qau];exact h _ _ _ _ _ e
theorem qab0 {new:Bool} {op:Operator} (x y:D):Sim P (D.sh P.length) (qf8 new op x y) (qf8 new op (x.sh P.length) (y.sh P.length)):=by
 cases op <;> first | exact Sim.fail | exact qet qabv x y | exact qet q40 x y | exact qet qabw x y | exact qet qabx x y | exact qet qaby x y | exact qet qabz x y
theorem q8t {p:Int→Int→Bool} (x y:D):Sim P (D.sh P.length) (qrv p x y) (qrv p (x.sh P.length) (y.sh P.length)):=by
 cases x <;> cases y <;> first | exact Sim.fail | (simp only [qab,qrv];exact Sim.pure' (by simp))
theorem qab1 {neg:Bool} (x y:D):Sim P (D.sh P.length) (eqM neg x y) (eqM neg (x.sh P.length) (y.sh P.length)):=by
 unfold eqM
 rw[qu1,qu2,qwp,qwp]
 cases eqD x y with
 | none=>exact Sim.fail
 | some b=>exact Sim.ite (Sim.pure' (by simp)) Sim.fail
theorem qab2 {neg:Bool} (x y:D):Sim P (D.sh P.length) (isM neg x y) (isM neg (x.sh P.length) (y.sh P.length)):=by
 have:(x.sh P.length).isNon=x.isNon:=by cases x <;> simp [D.isNon]
 cases y <;> first | exact Sim.fail | (simp only [qqn,isM,this];exact Sim.pure' (by simp))
theorem qab3 {neg:Bool} (x y:D):Sim P (D.sh P.length) (inM neg x y) (inM neg (x.sh P.length) (y.sh P.length)):=by
 cases y <;> first | exact Sim.fail | skip
 case str j=>cases x <;> first | exact Sim.fail | (simp only [qes,inM];exact Sim.pure' (by simp))
 case lst es =>
   simp only [qa4,inM,qqr]
   cases qc8 x es with
   | none=>exact Sim.fail
   | some b=>exact Sim.pure' (by simp)
 case tup es =>
   simp only [qer,inM,qqr]
   cases qc8 x es with
   | none=>exact Sim.fail
   | some b=>exact Sim.pure' (by simp)
 case dct ks es =>
   simp only [qd0,inM,qh0]
   cases keyOf x with
   | none=>exact Sim.fail
   | some b=>exact Sim.pure' (by simp)
theorem qo6 {op:CmpOp} (x y:D):Sim P (D.sh P.length) (qa6 op x y) (qa6 op (x.sh P.length) (y.sh P.length)):=by
 cases op <;> first | exact qet q8t x y | exact qet qab1 x y | exact qet qab2 x y | exact Sim.seeing (k:=fun z=>inM _ x z) (k':=fun z=>inM _ (x.sh P.length) z) (fun z=>qab3 x z)
theorem qu3 {i:Nat} {Γ:Env}:Sim P (D.sh P.length) (qfd i Γ) (qfd i (eS P.length Γ)):=by
 unfold qfd
 rw[List.getElem?_map]
 cases Γ[i]? with
 | none=>exact Sim.fail
 | some o=>cases o with
   | none=>exact Sim.fail
   | some d=>exact Sim.pure
theorem qmu {d:D}:Sim P id (asB d) (asB (d.sh P.length)):=by
 cases d <;> first | exact Sim.fail | (rw[qtg];exact Sim.pure' rfl)
theorem qab4 {d:D}:Sim P (D.sh P.length) (qul d) (qul (d.sh P.length)):=by
 cases d <;> first | exact Sim.fail | (rw[qab];exact Sim.pure' (by simp))
theorem qab5 {d:D}:Sim P id (asI d) (asI (d.sh P.length)):=by
 cases d <;> first | exact Sim.fail | (rw[qab];exact Sim.pure' rfl)
theorem qab6 {d:D}:Sim P id (qhj d) (qhj (d.sh P.length)):=by
 intro S a S' e
 unfold qhj at e ⊢
 rw[qau]
 cases e1:look d S <;> rw[e1]at e <;> first | (cases e;done) | skip
 case str y =>
   simp only [qes]at e ⊢
   revert e
   cases sizeOk y.length <;> intro e <;> cases e
   rfl
 all_goals (cases e;simp [M.pure])
theorem qab7 {ds:List D}:Sim P (D.sh P.length) (mkT ds) (mkT (ds.map (D.sh P.length))):=by
 unfold mkT;rw[List.length_map];exact Sim.ite (Sim.pure' (by simp)) Sim.fail
theorem qab8 {new:Bool} {ds:List D}:Sim P (D.sh P.length) (mkL new ds) (mkL new (ds.map (D.sh P.length))):=by
 unfold mkL;rw[List.length_map];exact Sim.ite (qbk rfl) Sim.fail
theorem q41 (x y:D):Sim P (D.sh P.length) (ixM x y) (ixM (x.sh P.length) (y.sh P.length)):=by
 cases x <;> first | exact Sim.fail | skip
 case dct ks xs =>
   simp only [qd0,ixM,qh0]
   cases keyOf y with
   | none=>exact Sim.fail
   | some j =>
     dsimp only
     rw[qth]
     cases qfe ks xs j with
     | none=>exact Sim.fail
     | some d=>exact Sim.pure
 all_goals
   cases y <;> first | exact Sim.fail | skip
   simp only [qa4,qer,qes,qab,ixM,q3z]
 case lst.int xs i =>
   cases atI xs i with
   | none=>exact Sim.fail
   | some d=>exact Sim.pure
 case tup.int xs i =>
   cases atI xs i with
   | none=>exact Sim.fail
   | some d=>exact Sim.pure
 case str.int z i =>
   cases atI z.cps.toList i with
   | none=>exact Sim.fail
   | some d=>exact Sim.ite (Sim.pure' (by simp)) Sim.fail
theorem qab9 {new:Bool} {x:D} {lo hi:Option Int}:Sim P (D.sh P.length) (slM new x lo hi) (slM new (x.sh P.length) lo hi):=by
 cases x <;> first | exact Sim.fail | skip
 case lst xs=>simp only [qa4,slM];exact qbk qwq
 case tup xs=>simp only [qer,slM,List.length_map];exact Sim.ite (Sim.pure' (by rw[qer,qwq])) Sim.fail
end
section
variable {P:Sto}
theorem qaca (ds:List D):Sim P (D.sh P.length) (qr1 ds) (qr1 (ds.map (D.sh P.length))):=by
 rcases ds with _ | ⟨d,_ | ⟨e,r⟩⟩ <;> first | exact Sim.fail | skip
 intro S a S' e
 simp only [List.map_cons,List.map_nil,qr1]at e ⊢
 rw[qau]
 cases e1:look d S <;> rw[e1]at e <;> first | (cases e;done) | skip
 case str y =>
   simp only [qes]at e ⊢
   revert e
   cases sizeOk y.length <;> intro e <;> cases e
   simp [M.pure]
 all_goals (cases e;simp [M.pure])
theorem qqs {f:List D→M D} (hf:∀ xs,Sim P (D.sh P.length) (f xs) (f (xs.map (D.sh P.length)))) (ds:List D):Sim P (D.sh P.length) (qbs f ds) (qbs f (ds.map (D.sh P.length))):=by
 rcases ds with _ | ⟨d,_ | ⟨e,r⟩⟩ <;> first | exact Sim.fail | skip
 intro S a S' e
 simp only [List.map_cons,List.map_nil,qbs]at e ⊢
 rw[qau]
 cases e1:look d S <;> rw[e1]at e <;> first | (cases e;done) | skip
 simp only [qa4]
 exact hf _ _ _ _ e
theorem qacb (xs:List D):Sim P (D.sh P.length) (qm8 xs) (qm8 (xs.map (D.sh P.length))):=by
 unfold qm8;rw[qc2];cases intsOf xs <;> first | exact Sim.fail | exact Sim.pure' (by simp)
theorem qacc (xs:List D):Sim P (D.sh P.length) (qm9 xs) (qm9 (xs.map (D.sh P.length))):=by
 unfold qm9;rw[qmt];cases qa0 xs <;> first | exact Sim.fail | exact Sim.pure' (by simp)
theorem qacd (xs:List D):Sim P (D.sh P.length) (qr2 xs) (qr2 (xs.map (D.sh P.length))):=by
 unfold qr2;rw[qmt];cases qa0 xs <;> first | exact Sim.fail | exact Sim.pure' (by simp)
theorem qace (ds:List D):Sim P (D.sh P.length) (minD ds) (minD (ds.map (D.sh P.length))):=by
 rcases ds with _ | ⟨d,_ | ⟨e,_ | ⟨_,_⟩⟩⟩
 · exact Sim.fail
 · intro S a S' e
   simp only [List.map_cons,List.map_nil,minD]at e ⊢
   rw[qau]
   cases e1:look d S <;> rw[e1]at e <;> first | (cases e;done) | skip
   rename_i xs
   simp only [qa4,qc2]at e ⊢
   cases e2:intsOf xs with
   | none=>rw[e2]at e;cases e
   | some ns =>
     rw[e2]at e
     dsimp only at e ⊢
     revert e
     cases !ns.isEmpty <;> intro e <;> cases e
     simp [M.pure]
 · cases d <;> cases e <;> first | exact Sim.fail | (simp only [List.map_cons,List.map_nil,qab,minD];exact Sim.pure' (by simp))
 · intro S a S' h
   cases d <;> cases e <;> cases h
theorem qacf (ds:List D):Sim P (D.sh P.length) (maxD ds) (maxD (ds.map (D.sh P.length))):=by
 rcases ds with _ | ⟨d,_ | ⟨e,_ | ⟨_,_⟩⟩⟩
 · exact Sim.fail
 · intro S a S' h;cases d <;> cases h
 · cases d <;> cases e <;> first | exact Sim.fail | (simp only [List.map_cons,List.map_nil,qab,maxD];exact Sim.pure' (by simp))
 · intro S a S' h
   cases d <;> cases e <;> cases h
theorem q8u {new:Bool} (ds:List D):Sim P (D.sh P.length) (qhl new ds) (qhl new (ds.map (D.sh P.length))):=by
 rcases ds with _ | ⟨d,_ | ⟨e,r⟩⟩ <;> first | exact Sim.fail | skip
 intro S a S' e
 simp only [List.map_cons,List.map_nil,qhl]at e ⊢
 rw[qau]
 cases e1:look d S <;> rw[e1]at e <;> first | (cases e;done) | skip
 · simp only [qa4];exact qbk rfl _ _ _ e
 · simp only [qer];exact qbk rfl _ _ _ e
theorem q8v (ds:List D):Sim P (D.sh P.length) (qxp ds) (qxp (ds.map (D.sh P.length))):=by
 rcases ds with _ | ⟨d,_ | ⟨e,r⟩⟩ <;> first | exact Sim.fail | skip
 intro S a S' e
 simp only [List.map_cons,List.map_nil,qxp]at e ⊢
 rw[qau]
 cases e1:look d S <;> rw[e1]at e <;> first | (cases e;done) | skip
 all_goals (cases e;simp [M.pure])
theorem q8w (ds:List D):Sim P (D.sh P.length) (intD ds) (intD (ds.map (D.sh P.length))):=by
 rcases ds with _ | ⟨d,_ | ⟨e,r⟩⟩
 · exact Sim.fail
 · cases d <;> first | exact Sim.fail | (simp only [List.map_cons,List.map_nil,qab,qtg,intD];exact Sim.pure' (by simp))
 · intro S a S' h;cases d <;> cases h
theorem q8x (ds:List D):Sim P (D.sh P.length) (qxq ds) (qxq (ds.map (D.sh P.length))):=by
 rcases ds with _ | ⟨d,_ | ⟨e,r⟩⟩
 · exact Sim.fail
 · cases d <;> first | exact Sim.fail | (simp only [List.map_cons,List.map_nil,qab,qxq];exact Sim.ite (Sim.pure' (by simp)) Sim.fail)
 · intro S a S' h;cases d <;> cases h
theorem qacg (ds:List D):Sim P (D.sh P.length) (qsd ds) (qsd (ds.map (D.sh P.length))):=by
 have ht:∀ d:D,qnf (d.sh P.length)=qnf d:=by intro d;cases d <;> simp [qnf]
 rcases ds with _ | ⟨d,_ | ⟨t,_ | ⟨_,_⟩⟩⟩
 · exact Sim.fail
 · exact Sim.fail
 · cases t <;> first | exact Sim.fail | skip
   intro S a S' e
   simp only [List.map_cons,List.map_nil,qwo,qsd]at e ⊢
   rw[qau,ht]
   cases e1:qnf (look d S)with
   | none=>rw[e1]at e;cases e
   | some u =>
     rw[e1]at e
     exact(Sim.ite (Sim.pure' (by simp)) Sim.fail:Sim P (D.sh P.length) _ _) _ _ _ e
 · intro S a S' h;cases t <;> cases h
theorem q30 {new:Bool} (ds:List D):Sim P (D.sh P.length) (qfj new ds) (qfj new (ds.map (D.sh P.length))):=by
 rcases ds with _ | ⟨d,_ | ⟨e,r⟩⟩ <;> first | exact Sim.fail | skip
 intro S a S' e
 simp only [List.map_cons,List.map_nil,qfj]at e ⊢
 rw[qau]
 cases e1:look d S <;> rw[e1]at e <;> first | (cases e;done) | skip
 simp only [qd0];exact qbk (qtj _).symm _ _ _ e
theorem q01 {new:Bool} (ds:List D):Sim P (D.sh P.length) (qcn new ds) (qcn new (ds.map (D.sh P.length))):=by
 rcases ds with _ | ⟨d,_ | ⟨e,r⟩⟩ <;> first | exact Sim.fail | skip
 intro S a S' e
 simp only [List.map_cons,List.map_nil,qcn]at e ⊢
 rw[qau]
 cases e1:look d S <;> rw[e1]at e <;> first | (cases e;done) | skip
 case lst xs =>
   simp only [qa4,qc2]at e ⊢
   cases e2:intsOf xs with
   | none=>rw[e2]at e;cases e
   | some ns =>
     rw[e2]at e
     dsimp only at e ⊢
     split at e
     · rename_i hz
       rw[if_pos hz];exact qbk (qtk _).symm _ _ _ e
     · cases e
 case dct ks xs =>
   simp only [qd0]at e ⊢
   cases e2:intsOf (ks.map qga)with
   | none=>rw[e2]at e;cases e
   | some ns =>
     rw[e2]at e
     dsimp only at e ⊢
     split at e
     · rename_i hz
       rw[if_pos hz];exact qbk (qtk _).symm _ _ _ e
     · cases e
theorem q02 (d:D):Sim P (D.sh P.length) (qdv d) (qdv (d.sh P.length)):=by
 intro S a S' e
 unfold qdv at e ⊢
 rw[qau]
 cases e1:look d S <;> rw[e1]at e <;> first | (cases e;done) | skip
 rename_i xs
 simp only [qa4,qc2]at e ⊢
 cases e2:intsOf xs with
 | none=>rw[e2]at e;cases e
 | some ns =>
   rw[e2]at e
   exact(Sim.ite (Sim.pure' (by simp)) Sim.fail:Sim P (D.sh P.length) _ _) _ _ _ e
theorem s_bi (b:Bi) (ds:List D):Sim P (D.sh P.length) (biF b ds) (biF b (ds.map (D.sh P.length))):=by
 cases b with
 | len=>exact qaca ds
 | sum=>exact qqs qacb ds
 | all=>exact qqs qacc ds
 | any=>exact qqs qacd ds
 | min=>exact qace ds
 | max=>exact qacf ds
 | list new=>exact q8u ds
 | tuple=>exact q8v ds
 | int=>exact q8w ds
 | str=>exact q8x ds
 | isi=>exact qacg ds
 | keys new=>exact q30 ds
 | sorted new=>exact q01 ds
theorem qh1 {o:D} {g g':List D→Option (D × List D)} (h:∀ xs d ys,g xs=some (d,ys)→g' (xs.map (D.sh P.length))=some (d.sh P.length,ys.map (D.sh P.length))):Sim P (D.sh P.length) (qbo o g) (qbo (o.sh P.length) g'):=by
 intro S a S' e
 unfold qbo at e ⊢
 cases o <;> first | (cases e;done) | skip
 rename_i l
 simp only [qeq]at e ⊢
 rw[qms]
 cases e1:S[l]? with
 | none=>rw[e1]at e;cases e
 | some c =>
   rw[e1]at e
   cases c <;> first | (cases e;done) | skip
   rename_i xs
   dsimp only at e
   cases e2:g xs with
   | none=>rw[e2]at e;cases e
   | some p =>
     obtain ⟨d,ys⟩:=p
     rw[e2]at e
     cases e
     simp only [Option.map_some,Cell.sh,h _ _ _ e2]
     have:=qqo (P:=P) (S:=S) (l:=l) (c:=.lst ys)
     rw[Cell.sh]at this
     rw[this]
theorem s_mt (m:Mt) (o:D) (ds:List D):Sim P (D.sh P.length) (mtF m o ds) (mtF m (o.sh P.length) (ds.map (D.sh P.length))):=by
 cases m with
 | append =>
   rcases ds with _ | ⟨d,_ | ⟨e,r⟩⟩ <;> first | exact Sim.fail | skip
   refine qh1 fun xs d' ys h=> ?_
   split at h
   · rename_i hz;cases h;rw[List.length_map,if_pos hz];simp
   · cases h
 | insert =>
   rcases ds with _ | ⟨d,_ | ⟨e,_ | ⟨_,_⟩⟩⟩
   · exact Sim.fail
   · intro S a S' h;cases d <;> cases h
   · cases d <;> first | exact Sim.fail | skip
     rename_i j
     simp only [List.map_cons,List.map_nil,qab]
     refine qh1 fun xs d' ys h=> ?_
     split at h
     · rename_i hz;cases h;rw[List.length_map,if_pos hz];simp [List.map_take,List.map_drop]
     · cases h
   · intro S a S' h;cases d <;> cases h
 | pop =>
   rcases ds with _ | ⟨d,r⟩ <;> first | exact Sim.fail | skip
   refine qh1 fun xs d' ys h=> ?_
   rw[List.getLast?_map]
   cases e:xs.getLast? with
   | none=>rw[e]at h;cases h
   | some x=>rw[e]at h;cases h;simp [List.map_dropLast]
 | clear =>
   rcases ds with _ | ⟨d,r⟩ <;> first | exact Sim.fail | skip
   show Sim P (D.sh P.length) (qbo o fun _=>some (.non,[])) (qbo (o.sh P.length) fun _=>some (.non,[]))
   refine qh1 fun xs d' ys h=> ?_
   cases h;simp
 | join =>
   intro S a S' e
   cases o <;> first | (cases e;done) | skip
   rcases ds with _ | ⟨d,_ | ⟨y,r⟩⟩ <;> first | (cases e;done) | skip
   simp only [List.map_cons,List.map_nil,qes,mtF,joinM]at e ⊢
   rw[qau]
   cases e1:look d S <;> rw[e1]at e <;> first | (cases e;done) | skip
   rename_i xs
   simp only [qa4,qo3]at e ⊢
   cases e2:strsOf xs with
   | none=>rw[e2]at e;cases e
   | some ns =>
     rw[e2]at e
     exact(Sim.ite (Sim.pure' (by simp)) Sim.fail:Sim P (D.sh P.length) _ _) _ _ _ e
 | index =>
   intro S a S' e
   simp only [mtF,qpv]at e ⊢
   rw[qau]
   cases e1:look o S <;> rw[e1]at e <;> first | (cases e;done) | skip
   rename_i xs
   rcases ds with _ | ⟨d,_ | ⟨y,r⟩⟩
   · cases e
   · cases d <;> first | (cases e;done) | skip
     rename_i k
     simp only [List.map_cons,List.map_nil,qab,qa4,qc2]at e ⊢
     cases e2:intsOf xs with
     | none=>rw[e2]at e;cases e
     | some ns =>
       rw[e2]at e
       dsimp only at e ⊢
       cases e3:qr8 k ns with
       | none=>rw[e3]at e;cases e
       | some j=>rw[e3]at e;cases e;simp
   · cases d <;> cases e
theorem qach (m:Mt) (d:D):mtT m (d.sh P.length)=mtT m d:=by
 cases m <;> cases d <;> simp [mtT,isL,isS]
end
noncomputable def Fl.sh (n:Nat):Fl→Fl
 | .nx=>.nx
 | .rt d=>.rt (d.sh n)
 | .bk=>.bk
 | .ct=>.ct
noncomputable abbrev rS (n:Nat) (r:Fl × Env):Fl × Env:=(r.1.sh n,eS n r.2)
noncomputable abbrev qn1 (n:Nat) (src:Src):Src:=src.map fun p=>(p.1+n,p.2.sh n)
noncomputable abbrev iS (n:Nat) (r:List D × Src):List D × Src:=(r.1.map (D.sh n),qn1 n r.2)
section
variable {P:Sto}
theorem qjg {n:Nat} {Γ:Env} {i:Nat} {d:D}:(eS n Γ).set i (some (d.sh n))=eS n (Γ.set i (some d)):=by simp [eS,List.map_set]
theorem qqt {n k:Nat} {Γ:Env}:List.replicate k none++eS n Γ=eS n (List.replicate k none++Γ):=by simp [eS]
theorem qdr {src:Src}:Sim P id (guard src) (guard (qn1 P.length src)):=by
 intro S a S' e
 unfold guard at e
 by_cases h:q8 src S
 · rw[if_pos h]at e
   cases e
   refine qr4 fun p hp=> ?_
   obtain ⟨q,hq,rfl⟩:=List.mem_map.mp hp
   dsimp only
   rw[qms,h q hq];rfl
 · rw[if_neg h]at e;cases e
theorem qkv (d:D):Sim P (iS P.length) (qm d) (qm (d.sh P.length)):=by
 intro S a S' e
 unfold qm at e ⊢
 cases d <;> first | (cases e;done) | skip
 case ref l =>
   simp only [qeq]at e ⊢
   rw[qms]
   cases e1:S[l]? with
   | none=>rw[e1]at e;cases e
   | some c =>
     rw[e1]at e
     cases c <;> first | (cases e;done) | skip
     cases e;simp [Cell.sh]
 case lst xs=>cases e;simp
 case tup xs=>cases e;simp
theorem q03 (d:D):Sim P (iS P.length) (qeh d) (qeh (d.sh P.length)):=by
 cases d <;> first | exact Sim.fail | skip
 simp only [qd0,qeh]
 exact Sim.pure' (by simp only [iS,qn1,List.map_nil,qtj])
theorem q04 (ds:List D):Sim P (iS P.length) (qdu ds) (qdu (ds.map (D.sh P.length))):=by
 rcases ds with _ | ⟨d,_ | ⟨e,r⟩⟩
 · exact Sim.fail
 · cases d <;> first | exact Sim.fail | (simp only [List.map_cons,List.map_nil,qab,qdu];exact Sim.ite (Sim.pure' (by simp only [iS,qn1,List.map_nil,qwr])) Sim.fail)
 · intro S a S' h;cases d <;> cases h
theorem q05 (ds:List D):Sim P (iS P.length) (qgl ds) (qgl (ds.map (D.sh P.length))):=by
 rcases ds with _ | ⟨d,_ | ⟨e,_ | ⟨_,_⟩⟩⟩
 · exact Sim.fail
 · intro S a S' h;cases d <;> cases h
 · cases d <;> cases e <;> first | exact Sim.fail | (simp only [List.map_cons,List.map_nil,qab,qgl];exact Sim.ite (Sim.pure' (by simp only [iS,qn1,List.map_nil,qwr])) Sim.fail)
 · intro S a S' h;cases d <;> cases e <;> cases h
theorem q06 (ds:List D):Sim P (iS P.length) (qcb ds) (qcb (ds.map (D.sh P.length))):=by
 rcases ds with _ | ⟨d,_ | ⟨e,r⟩⟩ <;> first | exact Sim.fail | skip
 simp only [List.map_cons,List.map_nil,qcb]
 refine Sim.bind (qkv d) fun r=> ?_
 cases d <;> first | exact Sim.fail | skip
 all_goals first | simp only [qeq,qa4,qd0,qu0,qqn,qtg,qab,qes,qwo,q00] | skip
 all_goals exact Sim.pure' (by simp only [iS,qyb])
theorem q31 (ds:List D):Sim P (iS P.length) (qfi ds) (qfi (ds.map (D.sh P.length))):=by
 rcases ds with _ | ⟨d,_ | ⟨e,_ | ⟨_,_⟩⟩⟩ <;> first | exact Sim.fail | skip
 simp only [List.map_cons,List.map_nil,qfi]
 refine Sim.bind (qkv d) fun r=>Sim.bind (qkv e) fun r'=>Sim.pure' (by simp only [iS,qti,qn1,List.map_append])
theorem q07 {o i v:D}:Sim P id (setM o i v) (setM (o.sh P.length) (i.sh P.length) (v.sh P.length)):=by
 intro S a S' e
 unfold setM at e ⊢
 cases o <;> first | (cases e;done) | skip
 rename_i l
 simp only [qeq]at e ⊢
 rw[qms]
 cases e1:S[l]? with
 | none=>rw[e1]at e;cases e
 | some c =>
   rw[e1]at e
   cases c <;> first | (cases e;done) | skip
   case lst xs =>
     cases i <;> first | (cases e;done) | skip
     rename_i k
     simp only [Option.map_some,Cell.sh,qab,List.length_map]at e ⊢
     cases e2:ixN xs.length k with
     | none=>rw[e2]at e;cases e
     | some j =>
       rw[e2]at e
       cases e
       have:=qqo (P:=P) (S:=S) (l:=l) (c:=.lst (xs.set j v))
       rw[Cell.sh,List.map_set]at this
       dsimp only
       rw[this]
   case dct ks xs =>
     simp only [Option.map_some,Cell.sh,qh0]at e ⊢
     cases e2:keyOf i with
     | none=>rw[e2]at e;cases e
     | some k =>
       rw[e2]at e
       dsimp only at e ⊢
       split at e
       · rename_i hz
         cases e
         have:=qqo (P:=P) (S:=S) (l:=l) (c:=.dct (qbg ks k) (qax ks xs k v))
         rw[Cell.sh,← qo5]at this
         rw[if_pos hz,this]
       · cases e
theorem s_ip {op:Operator} (x y:D):Sim P (D.sh P.length) (ipD op x y) (ipD op (x.sh P.length) (y.sh P.length)):=by
 cases op <;> first | exact Sim.fail | exact q40 x y | skip
 cases x <;> cases y <;> first | exact Sim.fail | (simp only [qab,ipD];exact Sim.pure' (by simp))
theorem qacj {o i:D}:Sim P (D.sh P.length) (ixW o i) (ixW (o.sh P.length) (i.sh P.length)):=by
 cases o <;> first | exact Sim.fail | skip
 rename_i l
 simp only [qeq,ixW]
 have:=Sim.seeing (P:=P) (f:=D.sh P.length) (d:=.ref l) (k:=fun z=>ixM z i) (k':=fun z=>ixM z (i.sh P.length)) (fun z=>q41 z i)
 rwa [qeq]at this
mutual
theorem q42:∀ (n:Nat) (d:D) (S:Sto) (e:D) (S':Sto),frz n d S=some (e,S')→frz n (d.sh P.length) (up P S)=some (e.sh P.length,up P S')
 | 0,d,S,e,S',h=>by
   cases d <;> simp only [frz,qeq,qa4,qer,qd0,qu0,qqn,qtg,qab,qes,qwo,q00]at h ⊢ <;> first | (cases h;done) | (cases h;simp)
 | n + 1,d,S,e,S',h=>by
   cases d <;> simp only [frz,qeq,qa4,qer,qd0,qu0,qqn,qtg,qab,qes,qwo,q00]at h ⊢ <;> first | (cases h;simp;done) | skip
   rename_i l
   rw[qms]
   cases e1:S[l]? with
   | none=>rw[e1]at h;cases h
   | some c =>
     rw[e1]at h
     have gone:∀ S1:Sto,(up P S1).set (l+P.length) .gone=up P (S1.set l .gone):=fun S1=>qqo (P:=P) (S:=S1) (l:=l) (c:=.gone)
     cases c <;> first | (cases h;done) | skip
     all_goals
       rename_i xs
       simp only [Option.map_some,Cell.sh]at h ⊢
       cases e2:frzs n xs S with
       | none=>rw[e2]at h;cases h
       | some p =>
         obtain ⟨ys,S1⟩:=p
         rw[e2]at h
         have k1:=q08 n xs S ys S1 e2
         cases h
         rw[k1]
         simp [gone]
theorem q08:∀ (n:Nat) (ds:List D) (S:Sto) (es:List D) (S':Sto),frzs n ds S=some (es,S')→frzs n (ds.map (D.sh P.length)) (up P S)=some (es.map (D.sh P.length),up P S')
 | n,[],S,es,S',h=>by
   rw[frzs]at h;cases h
   simp [frzs]
 | n,d::ds,S,es,S',h=>by
   rw[frzs]at h
   rw[List.map_cons,frzs]
   cases e1:frz n d S with
   | none=>rw[e1]at h;cases h
   | some p =>
     obtain ⟨x,S1⟩:=p
     rw[e1]at h
     dsimp only at h
     cases e2:frzs n ds S1 with
     | none=>rw[e2]at h;cases h
     | some q =>
       obtain ⟨xs,S2⟩:=q
       rw[e2]at h
       have k1:=q42 n d S x S1 e1
       have k2:=q08 n ds S1 xs S2 e2
       cases h
       rw[k1]
       dsimp only
       rw[k2]
       simp
end
theorem q09 (d:D):Sim P (D.sh P.length) (qd3 d) (qd3 (d.sh P.length)):=by
 intro S a S' h
 unfold qd3 at h ⊢
 cases e1:frz 3 d S with
 | none=>rw[e1]at h;cases h
 | some p =>
   obtain ⟨x,S1⟩:=p
   rw[e1]at h
   have k1:=q42 (P:=P) 3 d S x S1 e1
   cases h
   rw[k1]
end
section
variable {P:Sto}
noncomputable abbrev SE (P:Sto) (f:Env→M D):Prop:=∀ Γ,Sim P (D.sh P.length) (f Γ) (f (eS P.length Γ))
noncomputable abbrev SB (P:Sto) (f:Env→M Bool):Prop:=∀ Γ,Sim P id (f Γ) (f (eS P.length Γ))
noncomputable abbrev SA (P:Sto) (f:Env→M (List D)):Prop:=∀ Γ,Sim P (List.map (D.sh P.length)) (f Γ) (f (eS P.length Γ))
noncomputable abbrev SO (P:Sto) (f:Env→M (Option Int)):Prop:=∀ Γ,Sim P id (f Γ) (f (eS P.length Γ))
noncomputable abbrev SI (P:Sto) (f:MI):Prop:=∀ Γ,Sim P (iS P.length) (f Γ) (f (eS P.length Γ))
noncomputable abbrev SG (P:Sto) (f:D→Env→M Env):Prop:=∀ d Γ,Sim P (eS P.length) (f d Γ) (f (d.sh P.length) (eS P.length Γ))
noncomputable abbrev SGs (P:Sto) (f:List D→Env→M Env):Prop:=∀ ds Γ,Sim P (eS P.length) (f ds Γ) (f (ds.map (D.sh P.length)) (eS P.length Γ))
noncomputable abbrev SS (P:Sto) (f:MS):Prop:=∀ Γ,Sim P (rS P.length) (f Γ) (f (eS P.length Γ))
noncomputable def SF (F:Fd):Prop:=∀ (P:Sto) ds,Sim P (D.sh P.length) (F ds) (F (ds.map (D.sh P.length)))
theorem Sim.noErr {α:Type} {f:α→α} {m m':M α} (h:Sim P f m m'):Sim P f (noErr m) (noErr m'):=by
 intro S a S' e
 unfold T3.noErr at e ⊢
 cases e1:m S with
 | ok b S1=>rw[e1]at e;cases e;rw[h _ _ _ e1]
 | err x S1=>rw[e1]at e;cases e
 | no=>rw[e1]at e;cases e
theorem q8y {g h:MS} (hg:SS P g) (hh:SS P h):SS P (seqS g h):=fun Γ=>Sim.bind (hg Γ) fun r=>by
 obtain ⟨fl,Γ1⟩:=r
 cases fl
 · exact hh Γ1
 all_goals exact Sim.pure
theorem qack {c:Env→M Bool} {g h:MS} (hc:SB P c) (hg:SS P g) (hh:SS P h):SS P (ifS c g h):=fun Γ=>Sim.bind (hc Γ) fun b=>Sim.ite (hg Γ) (hh Γ)
theorem q32 {n:Nat} {r:List D→Env→M Env} (hr:SGs P r):SG P (qum n r):=by
 intro d Γ S a S' e
 unfold qum at e ⊢
 rw[qau]
 cases e1:look d S <;> rw[e1]at e <;> first | (cases e;done) | skip
 all_goals
   simp only [qa4,qer,List.length_map]at e ⊢
   split at e
   · rename_i hz;rw[if_pos hz];exact hr _ _ _ _ _ e
   · cases e
theorem qqu {src:Src} {hd:D→Env→M Env} {body:MS} (hh:SG P hd) (hb:SS P body):∀ (ds:List D) (Γ:Env),Sim P (rS P.length) (forL src hd body ds Γ) (forL (qn1 P.length src) hd body (ds.map (D.sh P.length)) (eS P.length Γ))
 | [],Γ=>by
   rw[List.map_nil,forL,forL]
   exact Sim.bind qdr fun _=>Sim.pure
 | d::ds,Γ=>by
   rw[List.map_cons,forL,forL]
   refine Sim.bind qdr fun _=>Sim.bind (hh d Γ) fun Γ1=>Sim.bind (hb Γ1) fun r=> ?_
   obtain ⟨fl,Γ2⟩:=r
   cases fl
   · exact qqu hh hb ds Γ2
   · exact Sim.pure
   · exact Sim.pure
   · exact qqu hh hb ds Γ2
theorem q8z {fi:MI} {hd:D→Env→M Env} {body:MS} (hi:SI P fi) (hh:SG P hd) (hb:SS P body):SS P (q20 fi hd body):=fun Γ=>Sim.bind (hi Γ) fun r=>qqu hh hb r.1 Γ
theorem qjh {c:Env→M Bool} {body:MS} (hc:SB P c) (hb:SS P body):∀ n,SS P (qk c body n)
 | 0=>fun Γ=>Sim.fail
 | n+1=>fun Γ=>by
   rw[qk,qk]
   refine Sim.bind (hc Γ) fun b=>Sim.ite (Sim.bind (hb Γ) fun r=> ?_) Sim.pure
   obtain ⟨fl,Γ2⟩:=r
   cases fl
   · exact qjh hc hb n Γ2
   · exact Sim.pure
   · exact Sim.pure
   · exact qjh hc hb n Γ2
theorem qf6 {c:Env→M Bool} {body:MS}:∀ (n m:Nat) (Γ:Env) (S:Sto),n≤m→qk c body n Γ S ≠ .no→qk c body m Γ S=qk c body n Γ S
 | 0,_,_,_,_,h=>absurd rfl h
 | n+1,0,_,_,hm,_=>by omega
 | n + 1,m+1,Γ,S,hm,h=>by
   rw[qk]at h
   rw[qk,qk]
   unfold M.bind at h ⊢
   cases e1:c Γ S with
   | no=>rfl
   | err x S1=>rfl
   | ok b S1 =>
     rw[e1]at h
     dsimp only at h ⊢
     cases b with
     | false=>rfl
     | true =>
       rw[if_pos rfl]at h
       rw[if_pos rfl,if_pos rfl]
       cases e2:body Γ S1 with
       | no=>rfl
       | err x S2=>rfl
       | ok r S2 =>
         rw[e2]at h
         obtain ⟨fl,Γ2⟩:=r
         cases fl
         · exact qf6 n m Γ2 S2 (by omega) h
         · rfl
         · rfl
         · exact qf6 n m Γ2 S2 (by omega) h
theorem qyc {c:Env→M Bool} {body:MS} {n:Nat} {Γ:Env} {S:Sto} (h:qk c body n Γ S ≠ .no):qda c body Γ S=qk c body n Γ S:=by
 have hx:∃ n,qk c body n Γ S ≠ .no:=⟨n,h⟩
 unfold qda
 rw[dif_pos hx]
 rcases Nat.le_total n hx.choose with k | k
 · exact qf6 _ _ _ _ k h
 · exact(qf6 _ _ _ _ k hx.choose_spec).symm
theorem q1a {c:Env→M Bool} {body:MS} (hc:SB P c) (hb:SS P body):SS P (qda c body):=by
 intro Γ S a S' e
 unfold qda at e
 by_cases hx:∃ n,qk c body n Γ S ≠ .no
 · rw[dif_pos hx]at e
   have k:=qjh hc hb hx.choose Γ _ _ _ e
   rw[qyc (n:=hx.choose) (by rw[k];exact fun z=>by cases z),k]
 · rw[dif_neg hx]at e;cases e
theorem qqv {src:Src} {n:Nat} {hd:D→Env→M Env} {cond:Env→M Bool} {elt:Env→M D} {Γ:Env} (hh:SG P hd) (hc:SB P cond) (he:SE P elt):∀ (ds acc:List D),Sim P (List.map (D.sh P.length)) (lcA src n hd cond elt Γ acc ds) (lcA (qn1 P.length src) n hd cond elt (eS P.length Γ) (acc.map (D.sh P.length)) (ds.map (D.sh P.length)))
 | [],acc=>by
   rw[List.map_nil,lcA,lcA]
   exact Sim.bind qdr fun _=>Sim.pure
 | d::ds,acc=>by
   rw[List.map_cons,lcA,lcA,qqt]
   refine Sim.bind qdr fun _=>Sim.bind (hh d _) fun Γ1=>Sim.bind (hc Γ1) fun b=>Sim.ite (Sim.bind (he Γ1) fun y=> ?_) (qqv hh hc he ds acc)
   have:=qqv (src:=src) (n:=n) (Γ:=Γ) hh hc he ds (acc++[y])
   rwa [List.map_append,List.map_cons,List.map_nil]at this
theorem qacl {new:Bool} {n:Nat} {fi:MI} {hd:D→Env→M Env} {cond:Env→M Bool} {elt:Env→M D} (hi:SI P fi) (hh:SG P hd) (hc:SB P cond) (he:SE P elt):SE P (lcD new n fi hd cond elt):=fun Γ=>Sim.bind (hi Γ) fun r=>by
 rw[List.length_map]
 exact Sim.ite (Sim.bind (Sim.noErr (qqv hh hc he r.1 [])) fun ds=>qbk rfl) Sim.fail
theorem qws {src:Src} {n n2:Nat} {hd:D→Env→M Env} {fi2:MI} {hd2:D→Env→M Env} {cond:Env→M Bool} {elt:Env→M D} {Γ:Env} (hh:SG P hd) (hi:SI P fi2) (hh2:SG P hd2) (hc:SB P cond) (he:SE P elt):∀ (ds acc:List D),Sim P (List.map (D.sh P.length)) (qj7 src n n2 hd fi2 hd2 cond elt Γ acc ds) (qj7 (qn1 P.length src) n n2 hd fi2 hd2 cond elt (eS P.length Γ) (acc.map (D.sh P.length)) (ds.map (D.sh P.length)))
 | [],acc=>by
   rw[List.map_nil,qj7,qj7]
   exact Sim.bind qdr fun _=>Sim.pure
 | d ::ds,acc=>by
   rw[List.map_cons,qj7,qj7,qqt]
   refine Sim.bind qdr fun _=>Sim.bind (hh d _) fun Γ1=>Sim.bind (hi Γ1) fun r=> ?_
   simp only [iS,List.length_map]
   refine Sim.ite (Sim.bind (f:=List.map (D.sh P.length)) ?_ fun acc'=> ?_) Sim.fail
   · have:=qqv (src:=r.2) (n:=n2) (Γ:=Γ1.drop n2) hh2 hc he r.1 acc
     rwa [eS,List.map_drop]at this
   · rw[List.length_map]
     exact Sim.ite (qws hh hi hh2 hc he ds acc') Sim.fail
theorem q80 {n n2:Nat} {fi:MI} {hd:D→Env→M Env} {fi2:MI} {hd2:D→Env→M Env} {cond:Env→M Bool} {elt:Env→M D} (hf:SI P fi) (hh:SG P hd) (hi:SI P fi2) (hh2:SG P hd2) (hc:SB P cond) (he:SE P elt):SE P (q70 n n2 fi hd fi2 hd2 cond elt):=fun Γ=>Sim.bind (hf Γ) fun r=>Sim.bind (Sim.noErr (qws hh hi hh2 hc he r.1 [])) fun ds=>Sim.pure' (by simp)
theorem qu4 {src:Src} {n:Nat} {hd:D→Env→M Env} {cond:Env→M Bool} {fk fv:Env→M D} {Γ:Env} (hh:SG P hd) (hc:SB P cond) (hk:SE P fk) (hv:SE P fv):∀ (ds:List D) (ks:List Key) (xs:List D),Sim P (fun p=>(p.1,p.2.map (D.sh P.length))) (dcA src n hd cond fk fv Γ ks xs ds) (dcA (qn1 P.length src) n hd cond fk fv (eS P.length Γ) ks (xs.map (D.sh P.length)) (ds.map (D.sh P.length)))
 | [],ks,xs=>by
   rw[List.map_nil,dcA,dcA]
   exact Sim.bind qdr fun _=>Sim.pure' rfl
 | d ::ds,ks,xs=>by
   rw[List.map_cons,dcA,dcA,qqt]
   refine Sim.bind qdr fun _=>Sim.bind (hh d _) fun Γ1=>Sim.bind (hc Γ1) fun b=>Sim.ite (Sim.bind (hk Γ1) fun k=>Sim.bind (hv Γ1) fun y=> ?_) (qu4 hh hc hk hv ds ks xs)
   rw[qh0]
   cases keyOf k with
   | none=>exact Sim.fail
   | some j =>
     dsimp only
     rw[qo5]
     exact qu4 hh hc hk hv ds _ _
theorem qacm {new:Bool} {n:Nat} {fi:MI} {hd:D→Env→M Env} {cond:Env→M Bool} {fk fv:Env→M D} (hi:SI P fi) (hh:SG P hd) (hc:SB P cond) (hk:SE P fk) (hv:SE P fv):SE P (dcD new n fi hd cond fk fv):=fun Γ=>Sim.bind (hi Γ) fun r=>by
 rw[List.length_map]
 refine Sim.ite (Sim.bind (Sim.noErr (qu4 hh hc hk hv r.1 [] [])) fun p=> ?_) Sim.fail
 have:=s_alloc (P:=P) (new:=new) (d:=.dct p.1 p.2)
 rwa [qd0]at this
end
section
variable {Φ:List Fd} {fns:List (Str × Nat × Nat)} {P:Sto}
theorem q1b (hΦ:∀ F ∈ Φ,SF F) (j:Nat) (ds:List D):Sim P (D.sh P.length) (qg Φ fns j ds) (qg Φ fns j (ds.map (D.sh P.length))):=by
 unfold qg
 cases e1:Φ[j]? with
 | none=>exact Sim.fail
 | some F=>cases e2:fns[j]? with
   | none=>exact Sim.fail
   | some t =>
     obtain ⟨x,n,k⟩:=t
     dsimp only
     unfold qv
     rw[List.length_map]
     split
     · exact hΦ F (List.mem_of_getElem? e1) P ds
     · exact Sim.fail
variable (hΦ:∀ F ∈ Φ,SF F)
include hΦ
mutual
theorem mE:∀ e:CE,SE P (evE Φ fns e)
 | .var i=>fun Γ=>by rw[evE];exact qu3
 | .int i=>fun Γ=>by rw[evE];exact Sim.pure' (by simp)
 | .str x=>fun Γ=>by rw[evE];exact Sim.pure' (by simp)
 | .bl b=>fun Γ=>by rw[evE];exact Sim.pure' (by simp)
 | .non=>fun Γ=>by rw[evE];exact Sim.pure' (by simp)
 | .ty n=>fun Γ=>by rw[evE];exact Sim.pure' (by simp)
 | .bin new op a b=>fun Γ=>by rw[evE];exact Sim.bind (mE a Γ) fun x=>Sim.bind (mE b Γ) fun y=>qab0 x y
 | .neg a=>fun Γ=>by rw[evE];exact Sim.bind (mE a Γ) fun x=>qab4
 | .cmp op a b=>fun Γ=>by rw[evE];exact Sim.bind (mE a Γ) fun x=>Sim.bind (mE b Γ) fun y=>qo6 x y
 | .chain o p a b c=>fun Γ=>by
   rw[evE]
   exact Sim.bind (mE a Γ) fun x=>Sim.bind (mE b Γ) fun y=>Sim.bind (qo6 x y) fun z=>Sim.bind qmu fun w=>Sim.ite (Sim.bind (mE c Γ) fun u=>qo6 y u) (Sim.pure' (by simp))
 | .and a b=>fun Γ=>by rw[evE];exact Sim.bind (mE a Γ) fun x=>Sim.bind qmu fun w=>Sim.ite (mE b Γ) (Sim.pure' (by simp))
 | .or a b=>fun Γ=>by rw[evE];exact Sim.bind (mE a Γ) fun x=>Sim.bind qmu fun w=>Sim.ite (Sim.pure' (by simp)) (mE b Γ)
 | .not a=>fun Γ=>by rw[evE];exact Sim.bind (mE a Γ) fun x=>Sim.bind qmu fun w=>Sim.pure' (by simp)
 | .one a=>fun Γ=>by rw[evE];exact mE a Γ
 | .ife c a b=>fun Γ=>by rw[evE];exact Sim.bind (mB c Γ) fun w=>Sim.ite (mE a Γ) (mE b Γ)
 | .tup as=>fun Γ=>by rw[evE];exact Sim.bind (mA as Γ) fun x=>qab7
 | .lst new as=>fun Γ=>by rw[evE];exact Sim.bind (mA as Γ) fun x=>qab8
 | .dnil new=>fun Γ=>by
   rw[evE]
   have:=s_alloc (P:=P) (new:=new) (d:=.dct [] [])
   rwa [qd0,List.map_nil]at this
 | .ix a i=>fun Γ=>by rw[evE];exact Sim.bind (mE a Γ) fun x=>Sim.bind (mE i Γ) fun y=>Sim.seeing (k:=fun z=>ixM z y) (k':=fun z=>ixM z (y.sh P.length)) fun z=>q41 z y
 | .sl new a lo hi=>fun Γ=>by rw[evE];exact Sim.bind (mE a Γ) fun x=>Sim.bind (mO lo Γ) fun l=>Sim.bind (mO hi Γ) fun h=>Sim.seeing (k:=fun z=>slM new z l h) (k':=fun z=>slM new z l h) fun z=>qab9
 | .call j as=>fun Γ=>by rw[evE];exact Sim.bind (mA as Γ) fun ds=>q1b hΦ j ds
 | .bi b as=>fun Γ=>by rw[evE];exact Sim.bind (mA as Γ) fun ds=>s_bi b ds
 | .mt m o as=>fun Γ=>by
   rw[evE]
   refine Sim.bind (mE o Γ) fun x=>Sim.seeing (k:=fun z=>if mtT m z=true then M.bind (evA Φ fns as Γ) (mtF m x)else M.fail) (k':=fun z=>if mtT m z=true then M.bind (evA Φ fns as (eS P.length Γ)) (mtF m (x.sh P.length))else M.fail) fun z=> ?_
   rw[qach]
   exact Sim.ite (Sim.bind (mA as Γ) fun ds=>s_mt m x ds) Sim.fail
 | .lc new n t i c e=>by rw[evE];exact qacl (mI i) (mG t) (mF c) (mE e)
 | .dc new n t i c k e=>by rw[evE];exact qacm (mI i) (mG t) (mF c) (mE k) (mE e)
 | .frz a=>fun Γ=>by rw[evE];exact Sim.bind (mE a Γ) fun x=>q09 x
 | .lset a=>fun Γ=>by rw[evE];exact Sim.bind (mE a Γ) fun x=>q02 x
 | .lc2 n n2 t i t2 i2 c e=>by rw[evE];exact q80 (mI i) (mG t) (mI i2) (mG t2) (mF c) (mE e)
theorem mB:∀ e:CB,SB P (evB Φ fns e)
 | .cmp op a b=>fun Γ=>by rw[evB];exact Sim.bind (Sim.bind (mE a Γ) fun x=>Sim.bind (mE b Γ) fun y=>qo6 x y) fun z=>qmu
 | .chain o p a b c=>fun Γ=>by
   rw[evB]
   exact Sim.bind (Sim.bind (mE a Γ) fun x=>Sim.bind (mE b Γ) fun y=>Sim.bind (qo6 x y) fun z=>Sim.bind qmu fun w=>Sim.ite (Sim.bind (mE c Γ) fun u=>qo6 y u) (Sim.pure' (by simp))) fun z=>qmu
 | .and a b=>fun Γ=>by rw[evB];exact Sim.bind (mB a Γ) fun w=>Sim.ite (mB b Γ) (Sim.pure' rfl)
 | .or a b=>fun Γ=>by rw[evB];exact Sim.bind (mB a Γ) fun w=>Sim.ite (Sim.pure' rfl) (mB b Γ)
 | .one a=>fun Γ=>by rw[evB];exact mB a Γ
 | .not a=>fun Γ=>by rw[evB];exact Sim.bind (mB a Γ) fun w=>Sim.pure' rfl
 | .tru a=>fun Γ=>by rw[evB];exact Sim.bind (mE a Γ) fun x=>qab6
theorem mF:∀ e:CF,SB P (evF Φ fns e)
 | .yes=>fun Γ=>by rw[evF];exact Sim.pure' rfl
 | .if_ a=>fun Γ=>by rw[evF];exact mB a Γ
theorem mA:∀ e:CL,SA P (evA Φ fns e)
 | .nil=>fun Γ=>by rw[evA];exact Sim.pure' rfl
 | .cons a r=>fun Γ=>by rw[evA];exact Sim.bind (mE a Γ) fun x=>Sim.bind (mA r Γ) fun xs=>Sim.pure' rfl
theorem mO:∀ e:CO,SO P (evO Φ fns e)
 | .no=>fun Γ=>by rw[evO];exact Sim.pure' rfl
 | .at_ a=>fun Γ=>by rw[evO];exact Sim.bind (mE a Γ) fun x=>qab5
theorem mI:∀ e:CI,SI P (evI Φ fns e)
 | .seq a=>fun Γ=>by rw[evI];exact Sim.bind (mE a Γ) fun x=>qkv x
 | .keys a=>fun Γ=>by rw[evI];exact Sim.bind (mE a Γ) fun x=>q03 x
 | .rng1 as=>fun Γ=>by rw[evI];exact Sim.bind (mA as Γ) fun x=>q04 x
 | .rng2 as=>fun Γ=>by rw[evI];exact Sim.bind (mA as Γ) fun x=>q05 x
 | .enum as=>fun Γ=>by rw[evI];exact Sim.bind (mA as Γ) fun x=>q06 x
 | .zip as=>fun Γ=>by rw[evI];exact Sim.bind (mA as Γ) fun x=>q31 x
theorem mG:∀ e:CG,SG P (evG Φ fns e)
 | .nm i=>fun d Γ=>by rw[evG];exact Sim.pure' qjg
 | .tg ts=>by rw[evG];exact q32 (mT ts)
 | .sub o i=>fun d Γ=>by rw[evG];exact Sim.bind (mE o Γ) fun x=>Sim.bind (mE i Γ) fun y=>Sim.bind q07 fun _=>Sim.pure' rfl
theorem mT:∀ e:CT,SGs P (evT Φ fns e)
 | .nil=>fun ds Γ=>by
   rw[evT]
   cases ds with
   | nil=>exact Sim.pure' rfl
   | cons d ds=>exact Sim.fail
 | .cons a r=>fun ds Γ=>by
   rw[evT]
   cases ds with
   | nil=>exact Sim.fail
   | cons d ds=>exact Sim.bind (mG a d Γ) fun Γ1=>mT r ds Γ1
end
mutual
theorem mS:∀ e:CS,SS P (evS Φ fns e)
 | .pass=>fun Γ=>by rw[evS];exact Sim.pure' rfl
 | .ex a=>fun Γ=>by rw[evS];exact Sim.bind (mE hΦ a Γ) fun _=>Sim.pure' rfl
 | .ret a=>fun Γ=>by rw[evS];exact Sim.bind (mE hΦ a Γ) fun _=>Sim.pure' rfl
 | .retN=>fun Γ=>by rw[evS];exact Sim.pure' (by simp [rS,Fl.sh])
 | .sif c a b=>by rw[evS];exact qack (mB hΦ c) (mSs a) (mSs b)
 | .asg t e=>fun Γ=>by rw[evS];exact Sim.bind (mE hΦ e Γ) fun d=>Sim.bind (mG hΦ t d Γ) fun _=>Sim.pure' rfl
 | .set i e=>fun Γ=>by rw[evS];exact Sim.bind (mE hΦ e Γ) fun d=>Sim.pure' (by rw[qjg];rfl)
 | .par i j as=>fun Γ=>by
   rw[evS]
   refine Sim.bind (mA hΦ as Γ) fun ds=> ?_
   rcases ds with _ | ⟨d,_ | ⟨e,_ | ⟨_,_⟩⟩⟩ <;> first | exact Sim.fail | skip
   exact Sim.pure' (by rw[qjg,qjg];rfl)
 | .aug op i e=>fun Γ=>by rw[evS];exact Sim.bind qu3 fun x=>Sim.bind (mE hΦ e Γ) fun y=>Sim.bind (s_ip x y) fun z=>Sim.pure' (by rw[qjg];rfl)
 | .augIx op o i e=>fun Γ=>by rw[evS];exact Sim.bind (mE hΦ o Γ) fun x=>Sim.bind (mE hΦ i Γ) fun y=>Sim.bind qacj fun u=>Sim.bind (mE hΦ e Γ) fun v=>Sim.bind (s_ip u v) fun z=>Sim.bind q07 fun _=>Sim.pure' rfl
 | .sfor t i b=>by rw[evS];exact q8z (mI hΦ i) (mG hΦ t) (mSs b)
 | .swhile c b=>by rw[evS];exact q1a (mB hΦ c) (mSs b)
 | .brk=>fun Γ=>by rw[evS];exact Sim.pure' rfl
 | .cont=>fun Γ=>by rw[evS];exact Sim.pure' rfl
theorem mSs:∀ e:CSL,SS P (qw Φ fns e)
 | .nil=>fun Γ=>by rw[qw];exact Sim.pure' rfl
 | .cons a r=>by rw[qw];exact q8y (mS a) (mSs r)
 | .gh i r=>fun Γ=>by
   rw[qw]
   refine Sim.bind qu3 fun x=>Sim.bind (q09 x) fun d=> ?_
   rw[qjg];exact mSs r _
end
theorem qbf {c:CSL} {m:Nat}:SF (qbi (qw Φ fns c) m):=by
 intro P ds S a S' e
 unfold qbi at e ⊢
 have hΓ:(ds.map (D.sh P.length)).map some++List.replicate m none=eS P.length (ds.map some++List.replicate m none):=by simp [eS]
 rw[hΓ]
 cases e1:qw Φ fns c (ds.map some++List.replicate m none) S with
 | no=>rw[e1]at e;cases e
 | err x S1=>rw[e1]at e;cases e
 | ok r S1 =>
   obtain ⟨fl,Γ1⟩:=r
   have k:=mSs (P:=P) hΦ c _ _ _ _ e1
   rw[e1]at e
   cases fl <;> first | (cases e;done) | skip
   · cases e;rw[k];simp [rS,Fl.sh]
   · cases e;rw[k];simp [rS,Fl.sh]
end
theorem qn2:SF qbx:=qbf fun _ h=>by simp [qhq]at h
theorem qn3:SF qby:=qbf fun _ h=>by simp [qhs]at h
theorem qu5:SF qd6:=qbf fun F h=>by
 simp only [qf4,List.mem_cons,List.not_mem_nil,or_false]at h
 rcases h with rfl | rfl
 · exact qn2
 · exact qn3
theorem qg7:SF qap:=qbf fun _ h=>by simp [qdm]at h
theorem qu6:SF qd7:=qbf fun _ h=>by simp [qoy]at h
theorem qn4:SF qb0:=qbf fun _ h=>by simp [qhu]at h
theorem qu7:SF qcd:=qbf fun F h=>by
 simp only [qc1,List.mem_cons,List.not_mem_nil,or_false]at h
 rcases h with rfl | rfl | rfl | rfl
 · exact qu5
 · exact qg7
 · exact qu6
 · exact qn4
theorem qqw:SF qa7:=qbf fun _ h=>by simp [qjt]at h
theorem SF.all {F:Fd} (h:SF F) {ds:List D} (hd:∀ n,ds.map (D.sh n)=ds) {Q:D→Sto→Prop} (h0:Ok (F ds []) Q):∃ r T,Q r T∧∀ S,F ds S=.ok (r.sh S.length) (up S T):=by
 cases e:F ds []with
 | ok r T =>
   rw[e]at h0
   refine⟨r,T,h0,fun S=> ?_⟩
   have:=h S ds [] r T e
   rw[hd]at this
   simpa [up]using this
 | err x S=>rw[e]at h0;exact False.elim h0
 | no=>rw[e]at h0;exact False.elim h0
theorem q81 {n k:Nat} {f:Nat→D}:(vec n f).map (D.sh k)=vec n fun i=>(f i).sh k:=by
 simp [vec,Function.comp_def]
theorem q33 {n k:Nat} {w:Nat→Int}:(qa8 n w).sh k=qa8 n w:=by
 simp only [qa8,qa4,q81,qab]
theorem q1c {k:Nat} (ts:Option (List (Nat × Nat))):(qaa ts).sh k=qaa ts:=by
 cases ts with
 | none=>simp [qaa]
 | some l=>simp [qaa,qb6,Function.comp_def]
noncomputable def nlD (ls:List Nat):D:=.lst (ls.map fun i:Nat=>.int i)
noncomputable def qb9 (ts:Option (List (Nat × Nat))) (n:Nat) (ls:List Nat):List Nat:=(List.range n).filter fun i=>ls.any fun j=>qak ts i j
noncomputable def lw (w:Nat→Int) (ls:List Nat):Int:=(ls.map w).sum
theorem qqx {α:Type} {b:α→Bool}:∀ {l:List α},qa0 (l.map fun a=>D.bl (b a))=some (l.map b)
 | []=>rfl
 | a::l=>by
   have:=qqx (b:=b) (l:=l)
   show (qa0 (l.map fun a=>D.bl (b a))).map (b a::·)=_
   rw[this];rfl
theorem any_map {α:Type} {b:α→Bool} {l:List α} {S:Sto}:biF .any [.lst (l.map fun a=>.bl (b a))] S=.ok (.bl (l.any b)) S:=by
 show qbs qr2 [.lst (l.map fun a=>.bl (b a))] S=_
 simp [qbs,qr2,qqx]
theorem all_map {α:Type} {b:α→Bool} {l:List α} {S:Sto}:biF .all [.lst (l.map fun a=>.bl (b a))] S=.ok (.bl (l.all b)) S:=by
 show qbs qm9 [.lst (l.map fun a=>.bl (b a))] S=_
 simp [qbs,qm9,qqx]
theorem qwt {w:Nat→Int} {ls:List Nat} {S:Sto}:biF .sum [.lst (ls.map fun i=>.int (w i))] S=.ok (.int (lw w ls)) S:=by
 have:(ls.map fun i=>D.int (w i))=(ls.map w).map D.int:=by simp
 rw[this]
 show qm8 ((ls.map w).map D.int) S=_
 rw[sum_ints];rfl
theorem qtl {n:Nat} {w:Nat→Int}:∀ {ls:List Nat},ls.Nodup→(∀ i ∈ ls,i < n)→lw w ls=sm n fun i=>if i ∈ ls then w i else 0
 | [],_,_=>by simp [lw,qb8]
 | a ::ls,nd,h=>by
   have ih:=qtl (n:=n) (w:=w) (List.nodup_cons.mp nd).2 fun i hi=>h i (by simp [hi])
   have na:=(List.nodup_cons.mp nd).1
   have e:(fun i=>if i ∈ a::ls then w i else 0)=fun i=>(if i ∈ ls then w i else 0)+if i=a then w a else 0:=by
     funext i
     by_cases ia:i=a
     · subst ia;simp [na]
     · simp [ia]
   rw[e,qux (h a (by simp)),← ih]
   simp [lw];omega
theorem qfu {ts:Option (List (Nat × Nat))} {n i:Nat} {ls:List Nat}:i ∈ qb9 ts n ls↔i < n∧∃ j ∈ ls,qak ts i j=true:=by
 simp [qb9]
theorem qwu {ts:Option (List (Nat × Nat))} {n:Nat} {ls:List Nat}:(qb9 ts n ls).Nodup:=List.Pairwise.filter _ List.nodup_range
theorem qu8 {n:Nat} {w:Nat→Int} {ts:Option (List (Nat × Nat))} {R:Nat→Nat→Int} (s:Stk n w (qak ts) R) (full:∀ i < n,sm n (R i)=2 * w i) {ls:List Nat} (nd:ls.Nodup) (lt:∀ i ∈ ls,i < n):lw w ls≤lw w (qb9 ts n ls):=by
 rw[qtl nd lt,qtl (n:=n) qwu fun i hi=>(qfu.mp hi).1]
 have a1:2 * sm n (fun i=>if i ∈ ls then w i else 0)=sm n fun i=>sm n fun j=>if i ∈ ls then R i j else 0:=by
   rw[← qdz]
   refine qal fun i hi=> ?_
   by_cases h:i ∈ ls
   · simp only [if_pos h];exact(full i hi).symm
   · simp only [if_neg h];rw[qb8];rfl
 have a2:2 * sm n (fun j=>if j ∈ qb9 ts n ls then w j else 0)=sm n fun j=>sm n fun i=>if j ∈ qb9 ts n ls then R i j else 0:=by
   rw[← qdz]
   refine qal fun j hj=> ?_
   by_cases h:j ∈ qb9 ts n ls
   · simp only [if_pos h];rw[← full j hj];exact qal fun i hi=>s.sym j hj i hi
   · simp only [if_neg h];rw[qb8];rfl
 have a3:sm n (fun i=>sm n fun j=>if i ∈ ls then R i j else 0)≤sm n fun i=>sm n fun j=>if j ∈ qb9 ts n ls then R i j else 0:=by
   refine qjx fun i hi=>qjx fun j hj=> ?_
   have p:=s.pos i hi j hj
   by_cases h:i ∈ ls
   · rw[if_pos h]
     by_cases z:R i j=0
     · rw[z];simp
     · rw[if_pos (qfu.mpr ⟨hj,i,h,by rw[qhy];exact s.tie i hi j hj z⟩)];exact Int.le_refl _
   · rw[if_neg h];split <;> omega
 have a4:=qea (f:=fun i j=>if j ∈ qb9 ts n ls then R i j else 0) (n:=n) (m:=n)
 omega
theorem qyd {n:Nat} {w u r:Nat→Int} {ts:Option (List (Nat × Nat))} {f:Nat→Nat→Int} {G T:DL} (fl:Flow n w (qak ts) f u r) (wk:Walk n u f (qak ts) [] G T) (hr:∀ j ∈ ky T,r j=0) (hG:(ky G).isEmpty=false) {gs:List Nat} (pm:gs.Perm (ky G)):lw w (qb9 ts n gs) < lw w gs:=by
 have mem:∀ i,i ∈ gs↔i ∈ ky G:=fun i=>pm.mem_iff
 rw[qtl (n:=n) qwu fun i hi=>(qfu.mp hi).1,qtl (n:=n) (pm.nodup_iff.mpr wk.ndG) fun i hi=>wk.ltG i ((mem i).mp hi)]
 have a1:sm n (fun j=>if j ∈ qb9 ts n gs then w j else 0)≤sm n fun j=>sm n fun i=>if i ∈ gs then f i j else 0:=by
   refine qjx fun j hj=> ?_
   by_cases h:j ∈ qb9 ts n gs
   · rw[if_pos h]
     obtain ⟨_,g,hg,t⟩:=qfu.mp h
     have hT:=wk.goT g ((mem g).mp hg) (by simp) j hj (by rw[qhy];exact t)
     have:=fl.col j hj
     rw[hr j hT]at this
     rw[← this,Int.add_zero]
     refine qjx fun i hi=> ?_
     by_cases z:0 < f i j
     · rw[if_pos ((mem i).mpr (wk.goG j hT i hi z))];exact Int.le_refl _
     · have:=fl.pos i hi j hj;split <;> omega
   · rw[if_neg h]
     refine qd9 fun i hi=> ?_
     have:=fl.pos i hi j hj;split <;> omega
 rw[← qea (f:=fun i j=>if i ∈ gs then f i j else 0)]at a1
 have a2:sm n (fun i=>sm n fun j=>if i ∈ gs then f i j else 0)+sm n (fun i=>if i ∈ gs then u i else 0)=sm n fun i=>if i ∈ gs then w i else 0:=by
   rw[← qck]
   refine qal fun i hi=> ?_
   by_cases h:i ∈ gs
   · simp only [if_pos h];exact fl.row i hi
   · simp only [if_neg h];rw[qb8];rfl
 obtain ⟨i,hi,h0⟩:=wk.first hG
 have a3:0 < sm n (fun i=>if i ∈ gs then u i else 0):=by
   refine qqk (i:=i) (fun k hk=> ?_) hi ?_
   · have:=fl.u0 k hk;split <;> omega
   · rw[if_pos ((mem i).mpr (wk.start i hi h0))];exact h0
 omega
theorem q1d (ls:List Nat):∃ gs:List Nat,gs.Perm ls∧sortI (ls.map fun i:Nat=>(i:Int))=gs.map fun i:Nat=>(i:Int):=by
 refine⟨(sortI (ls.map fun i:Nat=>(i:Int))).map Int.toNat,?_,?_⟩
 · have:=(sortI_perm (ls.map fun i:Nat=>(i:Int))).map Int.toNat
   simpa [Function.comp_def]using this
 · rw[List.map_map]
   refine((List.map_congr_left fun x hx=> ?_).trans (List.map_id _)).symm
   have:=(sortI_perm _).mem_iff.mp hx
   obtain ⟨k,_,rfl⟩:=List.mem_map.mp this
   simp
noncomputable def subs:Nat→List (List Nat)
 | 0=>[[]]
 | m+1=>subs m++(subs m).map fun l=>l++[m]
theorem qmv:∀ m,(subs m).length=2 ^ m
 | 0=>rfl
 | m+1=>by rw[subs,List.length_append,List.length_map,qmv m];omega
theorem qkw:∀ {m:Nat} {l:List Nat},l ∈ subs m→l.Nodup∧(∀ i ∈ l,i < m)∧l.length≤m
 | 0,l,h=>by simp [subs]at h;subst h;simp
 | m + 1,l,h=>by
   rw[subs,List.mem_append,List.mem_map]at h
   rcases h with h | ⟨l,h,rfl⟩
   · have ⟨a,b,c⟩:=qkw h
     exact⟨a,fun i hi=>by have:=b i hi;omega,by omega⟩
   · have ⟨a,b,c⟩:=qkw h
     refine⟨?_,fun i hi=> ?_,by simp;omega⟩
     · rw[List.nodup_append]
       exact⟨a,by simp,fun x hx y hy=>by have:=b x hx;simp at hy;omega⟩
     · rcases List.mem_append.mp hi with hi | hi
       · have:=b i hi;omega
       · simp at hi;omega
section
variable {n:Nat} {w:Nat→Int} {ts:Option (List (Nat × Nat))} {ls:List Nat} {S:Sto} {P:D→Sto→Prop} {x y z:D}
theorem qu9 (hy:nlD ls=y):qm y S=.ok (ls.map fun i:Nat=>.int i,[]) S:=by subst hy;rfl
theorem q1e {xs ys:List D} (h:xs.length+ys.length≤1000):qf8 false .Add (.lst xs) (.lst ys) S=.ok (.lst (xs++ys)) S:=by
 show (if sizeOk (xs.length+ys.length)then alloc false (.lst (xs++ys))else M.fail) S=_
 rw[if_pos (qbt h)];rfl
theorem q34 {q:D} (hx:qaa ts=x) (hy:nlD ls=y) (hq:D.int n=q) (hn:n≤20) (hl:ls.length≤20) (k:P (nlD (qb9 ts n ls)) S):Ok (qeo [x,q,y] S) P:=by
 refine Ok.run ?_
 subst hq
 unfold qg2
 ((try simp);rw[qa];try simp)
 rw[qbd (qb5 hn),qcz]
 simp
 refine⟨qt (by omega),qtb (l:=List.range n) (e:=fun i:Nat=>.int i) (g:=fun i:Nat=>.int i) (p:=fun i=>ls.any fun j=>qak ts i j) qq (fun i hi=> ?_) ?_⟩
 · simp
   rw[qu9 hy]
   simp
   refine⟨qt (by omega),qdh (l:=ls) (e:=fun j:Nat=>.int j) (g:=fun j:Nat=>.bl (qak ts i j)) qq (fun j hj=> ?_) ?_⟩
   · simp
     rw[← hx]
     refine q0r ?_
     simp
   · rw[any_map]
     simp
 · simpa [nlD,qb9]using k
theorem qtm (hx:qa8 n w=x) (hy:qaa ts=y) (hz:nlD ls=z) (hn:n≤20) (hl:ls.length≤20) (lt:∀ i ∈ ls,i < n) (k:P (.bl (decide (lw w (qb9 ts n ls) < lw w ls))) S):Ok (qdo [x,y,z] S) P:=by
 refine Ok.run ?_
 unfold qfn
 have hv:q4y S x n w:=qwn hx
 have nl:(qb9 ts n ls).length≤20:=by
   have:=List.length_filter_le (fun i=>ls.any fun j=>qak ts i j) (List.range n)
   unfold qb9;simp at this;omega
 ((try simp);rw[qa];try simp)
 rw[hv.len]
 simp
 generalize hq:D.int (n:Int)=q
 refine q34 hy hz hq hn hl ?_
 generalize hu:nlD (qb9 ts n ls)=u
 ((try simp);rw[qa];try simp)
 rw[qu9 hz]
 simp
 refine⟨qt (by omega),qdh (l:=ls) (e:=fun j:Nat=>.int j) (g:=fun j:Nat=>.int (w j)) qq (fun j hj=> ?_) ?_⟩
 · simp
   rw[hv.ix j (lt j hj)]
   simp
 rw[qwt]
 simp
 rw[qu9 hu]
 simp
 refine⟨qt (by omega),qdh (l:=qb9 ts n ls) (e:=fun j:Nat=>.int j) (g:=fun j:Nat=>.int (w j)) qq (fun j hj=> ?_) ?_⟩
 · simp
   rw[hv.ix j (qfu.mp hj).1]
   simp
 rw[qwt]
 simpa using k
theorem q1f {q:D} (m:Nat) (hq:D.int m=q) (hm:m≤7) (k:P (.lst ((subs m).map nlD)) S):Ok (qdp [q] S) P:=by
 refine Ok.run ?_
 subst hq
 unfold qfp
 ((try simp);rw[qa];try simp)
 rw[qdf (by simp)]
 simp
 ((try simp);rw[qa];try simp)
 rw[qbd (qb5 hm),qcz]
 simp
 refine qa5 (Iv:=fun i Γ S'=>S'=S∧∃ v2,Γ=[some (.int m),some (.lst ((subs i).map nlD)),v2]) ⟨rfl,none,rfl⟩ (fun i Γ S' h=>h.1 ▸ qq) (fun i d Γ S' hd h=> ?_) fun Γ S' h=> ?_
 · obtain ⟨rfl,v2,rfl⟩:=h
   have hi:i < m:=by have:=(List.getElem?_eq_some_iff.mp hd).1;simpa using this
   rw[qfq hi]at hd
   cases hd
   have p2:2 ^ i≤64:=Nat.le_trans (Nat.pow_le_pow_right (by decide) (show i≤6 by omega)) (by decide)
   have sl:=qmv i
   simp [qa,qm]
   refine⟨qt (by omega),qdh (l:=subs i) (e:=nlD) (g:=fun l=>nlD (l++[i])) qq (fun l hl=> ?_) ?_⟩
   · have:=(qkw hl).2.2
     simp [nlD]
     rw[qdf (by simp)]
     simp
     rw[q1e (by simp;omega)]
     simp
   · rw[q1e (by simp;omega)]
     simp [subs,Function.comp_def]
 · obtain ⟨rfl,v2,rfl⟩:=h
   simp [qa]
   simpa using k
end
noncomputable abbrev qqy:CSL:=.cons (.ret (.ife (.tru (.var 3)) (.bi (.sorted true) (.cons (.var 3) .nil)) .non)) .nil
noncomputable abbrev qg8:CSL:=.cons (.asg (.tg (.cons (.nm 2) (.cons (.nm 3) (.cons (.nm 4) .nil)))) (.call 0 (.cons (.var 0) (.cons (.call 1 (.cons (.var 1) (.cons (.bi .len (.cons (.var 0) .nil)) .nil))) .nil)))) qqy
noncomputable def qeu:List (Str × Nat × Nat):=[("fullest",2,3),("tie_table",2,1)]
noncomputable def qev:List Fd:=[qcd,qa7]
@[simp] theorem q1l:qg qev qeu 0=qv 2 qcd:=(rfl)
@[simp] theorem q1m:qg qev qeu 1=qv 2 qa7:=(rfl)
noncomputable def qcl:Fd:=qbi (qw qev qeu qg8) 3
noncomputable abbrev qtn:CSL:=.cons (.set 3 (.lc false 1 (.nm 0) (.seq (.call 9 (.cons (.var 1) (.cons (.var 4) (.cons (.var 5) .nil))))) .yes (.bin false .FloorDiv (.bi .sum (.cons (.var 0) .nil)) (.int 2)))) .nil
noncomputable abbrev qto:CSL:=.cons (.ret (.and (.var 10) (.one (.not (.bi .any (.cons (.lc false 1 (.nm 0) (.seq (.var 11)) .yes (.call 8 (.cons (.var 4) (.cons (.var 6) (.cons (.var 0) .nil))))) .nil)))))) .nil
noncomputable abbrev qtp:CSL:=.cons (.set 11 (.call 10 (.cons (.bi .min (.cons (.var 4) (.cons (.int 7) .nil))) .nil))) qto
noncomputable abbrev qtq:CSL:=.cons (.ret (.and (.call 8 (.cons (.var 3) (.cons (.var 5) (.cons (.var 12) .nil)))) (.one (.call 3 (.cons (.frz (.call 1 (.cons (.var 6) (.cons (.var 7) .nil)))) (.cons (.var 12) .nil)))))) .nil
noncomputable abbrev qtr:CSL:=.cons (.ex (.mt .append (.var 8) (.cons (.int 0) .nil))) qtq
noncomputable abbrev qts:CSL:=.cons (.set 12 (.bi (.list false) (.cons (.var 8) .nil))) qtr
noncomputable abbrev qtt:CSL:=.cons (.sif (.or (.cmp .NotEq (.var 8) (.bi (.sorted false) (.cons (.var 8) .nil))) (.or (.cmp .NotEq (.lset (.var 8)) (.bi .len (.cons (.var 8) .nil))) (.one (.not (.tru (.bi .all (.cons (.lc false 1 (.nm 0) (.seq (.var 8)) .yes (.chain .LtE .Lt (.int 0) (.var 0) (.var 5))) .nil))))))) (.cons (.ret (.bl false)) .nil) .nil) qts
noncomputable abbrev qtu:CSL:=.cons (.sif (.or (.tru (.var 10)) (.or (.not (.tru (.bi .isi (.cons (.var 8) (.cons (.ty "list") .nil))))) (.one (.not (.tru (.call 4 (.cons (.var 8) (.cons (.bi .len (.cons (.var 8) .nil)) .nil)))))))) (.cons (.ret (.bl false)) .nil) .nil) qtt
noncomputable abbrev qjy:CSL:=.cons (.sif (.cmp .Is (.var 8) .non) qtp .nil) qtu
noncomputable abbrev qtv:CSL:=.cons (.set 10 (.bi .all (.cons (.lc false 1 (.nm 0) (.rng1 (.cons (.var 4) .nil)) .yes (.cmp .Eq (.bi .sum (.cons (.ix (.var 10) (.var 0)) .nil)) (.bin false .Mult (.int 2) (.ix (.var 4) (.var 0))))) .nil))) qjy
noncomputable abbrev qqz:CSL:=.cons (.set 9 (.frz (.call 0 (.cons (.var 6) (.cons (.var 7) .nil))))) qtv
noncomputable abbrev qew:CSL:=.cons (.sif (.or (.cmp .NotEq (.var 6) (.var 3)) (.one (.cmp .NotEq (.var 7) (.var 5)))) (.cons (.ret (.bl false)) .nil) .nil) qqz
noncomputable abbrev qq0:CSL:=.cons (.set 8 (.call 1 (.cons (.var 6) (.cons (.var 7) .nil)))) qew
noncomputable abbrev qq1:CSL:=.cons (.set 7 (.call 7 (.cons (.var 5) .nil))) qq0
noncomputable abbrev qex:CSL:=.cons (.set 6 (.bi (.list false) (.cons (.var 3) .nil))) qq1
noncomputable abbrev qq2:CSL:=.cons (.sif (.cmp .Eq (.call 2 (.cons (.var 1) (.cons (.int 3) .nil))) (.int 0)) qtn .nil) qex
noncomputable abbrev qq3:CSL:=.cons (.set 5 (.call 6 (.cons (.var 1) (.cons (.var 4) .nil)))) qq2
noncomputable abbrev qq4:CSL:=.cons (.set 4 (.bi .len (.cons (.var 3) .nil))) qq3
noncomputable abbrev qq5:CSL:=.cons (.set 3 (.frz (.call 5 (.cons (.var 1) (.cons (.ix (.var 2) (.call 2 (.cons (.var 1) (.cons (.int 2) .nil)))) .nil))))) qq4
noncomputable abbrev qf7:CSL:=.cons (.set 2 (.lst false (.cons (.call 2 (.cons (.var 1) (.cons (.int 8) .nil))) (.cons (.call 2 (.cons (.var 1) (.cons (.int 13) .nil))) .nil)))) qq5
noncomputable def qu:List (Str × Nat × Nat):=[("greatest",2,4),("shut_of",2,4),("_law_take",2,1),("_law_same",2,6),("_law_whole_list",2,1),("_law_weight_row",2,3),("_law_any_ties",2,3),("_law_lent_ties",1,1),("_law_shuts",3,3),("_law_planted",3,2),("_law_lists",1,1)]
noncomputable def qy:List Fd:=[qce,qcl,qx,qas 5,qba,qbc,qb4,qa3,qdo,qcp,qdp]
@[simp] theorem q35:qg qy qu 0=qv 2 qce:=(rfl)
@[simp] theorem q36:qg qy qu 1=qv 2 qcl:=(rfl)
@[simp] theorem q37:qg qy qu 2=qv 2 qx:=(rfl)
@[simp] theorem q38:qg qy qu 3=qv 2 (qas 5):=(rfl)
@[simp] theorem q39:qg qy qu 4=qv 2 qba:=(rfl)
@[simp] theorem q4a:qg qy qu 5=qv 2 qbc:=(rfl)
@[simp] theorem q4b:qg qy qu 6=qv 2 qb4:=(rfl)
@[simp] theorem q4c:qg qy qu 7=qv 1 qa3:=(rfl)
@[simp] theorem q4d:qg qy qu 8=qv 3 qdo:=(rfl)
@[simp] theorem q4e:qg qy qu 9=qv 3 qcp:=(rfl)
@[simp] theorem q1n:qg qy qu 10=qv 1 qdp:=(rfl)
theorem qtw:SF qcl:=qbf fun F h=>by
 simp only [qev,List.mem_cons,List.not_mem_nil,or_false]at h
 rcases h with rfl | rfl
 · exact qu7
 · exact qqw
theorem q4f {L:DL} {S:Sto} (h:(ky L).length < 64):biF (.sorted true) [qbj L] S=.ok (.ref S.length) (S++[.lst ((sortI ((ky L).map fun i:Nat=>(i:Int))).map D.int)]):=by
 have e:(dks L).map qga=((ky L).map fun i:Nat=>(i:Int)).map D.int:=by simp [dks,ky,qga,Function.comp_def]
 show qcn true [qbj L] S=_
 unfold qcn qbj
 simp only [look,e,qbu]
 rw[if_pos (decide_eq_true (by simpa using h))]
 rfl
theorem qtx {n:Nat} {S:Sto} {w:Nat→Int} {ts:Option (List (Nat × Nat))} {P:D→Sto→Prop} (hn:n≤60) (hw:∀ i < n,0≤w i) (ht:qep n ts)
   (k:∀ f u r G T X d,Flow n w (qak ts) f u r→Walk n u f (qak ts) [] G T→(∀ j ∈ ky T,r j=0)→((ky G).isEmpty=true∧d=.non∨(ky G).isEmpty=false∧∃ l,d=.ref l∧(S++X)[l]? =some (.lst ((sortI ((ky G).map fun i:Nat=>(i:Int))).map D.int)))→P d (S++X)):Ok (qcl [qa8 n w,qaa ts] S) P:=by
 refine Ok.run ?_
 unfold qg8
 ((try simp);rw[qa];try simp)
 simp [qa8]
 refine qhx (by omega) ht fun X1=> ?_
 refine qmq (by omega) hw fun f u r G T X2 fl wk hr=> ?_
 simp
 ((try simp);rw[qa];try simp)
 rw[qabt]
 have hl:(ky G).length < 64:=by
   have:=List.Nodup.length_le_of_subset (l₁:=ky G) (l₂:=List.range n) wk.ndG fun g hg=>List.mem_range.mpr (wk.ltG g hg)
   simp at this;omega
 cases e:(ky G).isEmpty with
 | true =>
   have:=k f u r G T (X1++X2) _ fl wk hr (.inl ⟨e,rfl⟩)
   simpa using this
 | false =>
   simp
   rw[q4f hl]
   have:=k f u r G T (X1++X2++[.lst ((sortI ((ky G).map fun i:Nat=>(i:Int))).map D.int)]) (.ref (S++(X1++X2)).length) fl wk hr (.inr ⟨e,_,rfl,by rw[← List.append_assoc,List.getElem?_append_right (by simp)];simp⟩)
   simpa using this
theorem qq6 {n:Nat} {w:Nat→Int} {ts:Option (List (Nat × Nat))} (hn:n≤60) (hw:∀ i < n,0≤w i) (ht:qep n ts) :
   ∃ f u r G T,Flow n w (qak ts) f u r∧Walk n u f (qak ts) [] G T∧(∀ j ∈ ky T,r j=0) ∧
     ∀ (S:Sto) (P:D→Sto→Prop),((ky G).isEmpty=true→∀ X,P .non (S++X))→((ky G).isEmpty=false→∀ X l,S.length≤l→(S++X)[l]? =some (.lst ((sortI ((ky G).map fun i:Nat=>(i:Int))).map D.int))→P (.ref l) (S++X))→Ok (qcl [qa8 n w,qaa ts] S) P:=by
 obtain ⟨d,T0,⟨f,u,r,G,T,fl,wk,hr,hd⟩,h⟩:=SF.all qtw (ds:=[qa8 n w,qaa ts]) (fun k=>by simp [q33,q1c])
   (Q:=fun d T0=>∃ f u r G T,Flow n w (qak ts) f u r∧Walk n u f (qak ts) [] G T∧(∀ j ∈ ky T,r j=0)∧((ky G).isEmpty=true∧d=.non∨(ky G).isEmpty=false∧∃ l,d=.ref l∧T0[l]? =some (.lst ((sortI ((ky G).map fun i:Nat=>(i:Int))).map D.int))))
   (qtx hn hw ht fun f u r G T X d fl wk hr hd=>⟨f,u,r,G,T,fl,wk,hr,by simpa using hd⟩)
 refine⟨f,u,r,G,T,fl,wk,hr,fun S P k0 k1=> ?_⟩
 rw[h S]
 rcases hd with ⟨e,rfl⟩ | ⟨e,l,rfl,hl⟩
 · simpa using k0 e _
 · rw[qeq]
   refine k1 e _ _ (by omega) ?_
   show (up S T0)[l+S.length]? =_
   rw[qms,hl]
   simp only [Option.map_some,Cell.sh,List.map_map]
   congr 2
theorem q82 {r:Out (Fl × Env)} (h:Ok r fun x _=>x.1=.rt (.bl true)):∃ Γ' S',r=.ok (.rt (.bl true),Γ') S':=by
 unfold Ok at h
 cases r with
 | ok a S=>obtain ⟨fl,Γ⟩:=a;cases h;exact⟨Γ,S,rfl⟩
 | err x S=>exact h.elim
 | no=>exact h.elim
theorem q4g {ms:List Int}:qdi (qz7 ms):=⟨ms,0,0,17,rfl,by decide,by decide,by decide⟩
theorem qwv {g:Nat→Int}:∀ {n:Nat},(∀ i < n,∃ a,g i=2 * a)→sm n g=2 * (sm n g / 2)
 | 0,_=>rfl
 | n+1,h=>by
   have h1:=qwv fun i (hi:i < n)=>h i (by omega)
   obtain ⟨a,h2⟩:=h n (by omega)
   rw[sm];omega
theorem qye {n:Nat} {w:Nat→Int} {t:Nat→Nat→Bool} {R:Nat→Nat→Int} (s:Stk n w t R) (e:tot n R=2 * sm n w):∀ i < n,sm n (R i)=2 * w i:=fun i hi=>by
 have h1:sm n (fun i=>2 * w i - sm n (R i))=0:=by rw[qqh,qdz];unfold tot at e;omega
 have:=q3v (fun i hi=>by have:=s.row i hi;omega) h1 i hi
 omega
theorem q1g {d e:D} {S:Sto} (h:look d S=e) (hp:e.pln=true) (hd:e.dep≤60):qa6 .NotEq d e S=.ok (.bl false) S:=by
 have e0:look e S=e:=by cases e <;> first | rfl | (simp [D.pln]at hp)
 show eqM true (look d S) (look e S) S=_
 rw[h,e0]
 unfold eqM
 rw[qtd e hp]
 dsimp only
 rw[decide_eq_true hd,Bool.true_and]
 cases e <;> first | rfl | (simp [D.pln]at hp;done)
theorem qty {e:D} {S:Sto} (hp:e.pln=true):look e S=e:=by cases e <;> first | rfl | (simp [D.pln]at hp)
theorem q83 {ns:List Int} (nd:ns.Nodup):qz1 ns=ns.length:=by
 have all:∀ i≤ns.length,(firstMet (fun i=>ns.getD i 0) i).length=i:=by
   intro i
   induction i with
   | zero=>intro _;rw[firstMet_zero];rfl
   | succ i ih =>
     intro hi
     have ih:=ih (by omega)
     rw[firstMet_succ]
     unfold step_dedup
     have no:(firstMet (fun i=>ns.getD i 0) i).any (·==ns.getD i 0)=false:=by
       rw[firstMet_any,List.any_eq_false]
       intro x hx
       obtain ⟨k,hk,rfl⟩:=List.mem_map.mp hx
       have hk:=List.mem_range.mp hk
       simp only [beq_iff_eq]
       intro e
       have h1:k < ns.length:=by omega
       have h2:i < ns.length:=by omega
       simp only [List.getD_eq_getElem?_getD,List.getElem?_eq_getElem h1,List.getElem?_eq_getElem h2,Option.getD_some]at e
       have:=(List.getElem_inj nd).mp e
       omega
     rw[no,if_neg Bool.false_ne_true,List.length_append,List.length_singleton,ih]
 exact all _ (Nat.le_refl _)
theorem q43 {n:Nat} {w:Nat→Int} {ts:Option (List (Nat × Nat))} (a:Addr) (S:Sto) (d2 d8:D) (Q:Fl × Env→Sto→Prop) (hn:n≤12) (hw:∀ i < n,0≤w i) (ht:qep n ts) {x y q:D} (hx:qa8 n w=x) (hy:qaa ts=y) (hq:D.int n=q)
   (nx:∀ S,qa6 .NotEq x x S=.ok (.bl false) S) (ny:∀ S,qa6 .NotEq y y S=.ok (.bl false) S)
   (k:∀ R X z,Stk n w (qak ts) R→qx9 n w (qak ts) (tot n R)→Ok (qw qy qu qjy [some (.at_ a),some (.ref 0),some d2,some x,some q,some y,some x,some y,some d8,some z,some (.bl ((List.range n).all fun i=>decide (sm n (R i)=2 * w i))),none,none] (S++X)) Q) :
   Ok (qw qy qu qew [some (.at_ a),some (.ref 0),some d2,some x,some q,some y,some x,some y,some d8,none,none,none,none] S) Q:=by
 unfold qew
 ((try simp);rw[qa];try simp)
 simp [nx,ny]
 ((try simp);rw[qa];try simp)
 refine quy hx hy (by omega) hw ht fun R X s b=> ?_
 generalize hz:qs7 n R=z
 ((try simp);rw[qa];try simp)
 rw[← hq,qbd (qb5 hn),qcz]
 simp
 refine⟨qt (by omega),qdh (l:=List.range n) (e:=fun i:Nat=>.int i) (g:=fun i:Nat=>.bl (decide (sm n (R i)=2 * w i))) qq (fun i hi=> ?_) ?_⟩
 · have hi:=List.mem_range.mp hi
   have r1:=q0u (S:=S++X) hz
   simp
   rw[r1.ix i hi]
   simp
   rw[r1.sum i hi]
   simp
   rw[(qwn hx).ix i hi]
   simp
   rw[qlu (qwd (by decide) (by decide))]
   simp
   rfl
 rw[all_map]
 simp
 rw[hq]
 exact k R X z s b
theorem q1h {n:Nat} {w:Nat→Int} {ts:Option (List (Nat × Nat))} (a:Addr) (T:Sto) (d2:D) (Q:Fl × Env→Sto→Prop) (hn:n≤12) (hw:∀ i < n,0≤w i) (ht:qep n ts) (hR:∀ Γ S,Q (.rt (.bl true),Γ) S) {x y q:D} (hx:qa8 n w=x) (hy:qaa ts=y) (hq:D.int n=q) :
   Ok (qw qy qu qex [some (.at_ a),some (.ref 0),some d2,some x,some q,some y,none,none,none,none,none,none,none] T) Q:=by
 obtain ⟨f,u,r,G,T1,fl,wk,hr,sh⟩:=qq6 (show n≤60 by omega) hw ht
 have b1:=qo2 fl wk hr
 have t1:=q0t fl
 rw[hx,hy]at sh
 unfold qex
 have px:x.pln=true:=by subst hx;exact qte
 have dx:x.dep≤60:=by subst hx;exact Nat.le_trans qtf (by decide)
 have py:y.pln=true:=by subst hy;exact q0x
 have dy:y.dep≤60:=by subst hy;exact Nat.le_trans q0y (by decide)
 have nx:∀ S,qa6 .NotEq x x S=.ok (.bl false) S:=fun S=>q1g (qty px) px dx
 have ny:∀ S,qa6 .NotEq y y S=.ok (.bl false) S:=fun S=>q1g (qty py) py dy
 have hls:∀ S,biF (.list false) [x] S=.ok x S:=fun S=>qya hx
 ((try simp);rw[qa];try simp)
 rw[hls]
 simp
 ((try simp);rw[qa];try simp)
 have le:∀ S (P:D→Sto→Prop),P y S→Ok (qa3 [y] S) P:=fun S P k=>by subst hy;exact q3u k
 refine le _ _ ?_
 ((try simp);rw[qa];try simp)
 refine sh T _ (fun hG X1=> ?_) fun hG X1 l hl1 hl2=> ?_
 · refine q43 a _ d2 .non Q hn hw ht hx hy hq nx ny fun R X z s b=> ?_
   have hG':ky G=[]:=List.isEmpty_iff.mp hG
   have u0:sm n u=0:=by
     rw[← qb8 (n:=n)]
     exact qal fun i hi=>by
       have:=fl.u0 i hi
       by_cases z:0 < u i
       · have:=wk.start i hi z;rw[hG']at this;simp at this
       · omega
   have e1:=b.one b1
   have full:=qye s (by omega)
   have ea:((List.range n).all fun i=>decide (sm n (R i)=2 * w i))=true:=List.all_eq_true.mpr fun i hi=>decide_eq_true (full i (List.mem_range.mp hi))
   rw[ea]
   ((try simp);rw[qa];try simp)
   ((try simp);rw[qa];try simp)
   have em:∀ S,biF .min [q,.int 7] S=.ok (.int (min n 7:Nat)) S:=fun S=>by
     subst hq
     show minD [.int n,.int 7] S=_
     unfold minD
     show Out.ok (D.int (if (7:Int) < n then 7 else n)) S=_
     congr 2
     split <;> omega
   rw[em]
   simp
   generalize hm:D.int (min n 7:Nat)=m7
   refine q1f (min n 7) hm (by omega) ?_
   ((try simp);rw[qa];try simp [qm])
   have sl:=qmv (min n 7)
   have p2:2 ^ min n 7≤128:=Nat.le_trans (Nat.pow_le_pow_right (by decide) (show min n 7≤7 by omega)) (by decide)
   refine⟨qt (by omega),qdh (l:=subs (min n 7)) (e:=nlD) (g:=fun _=>.bl false) qq (fun l hl=> ?_) ?_⟩
   · simp
     have ⟨k1,k2,k3⟩:=qkw hl
     have lt:∀ i ∈ l,i < n:=fun i hi=>by have:=k2 i hi;omega
     refine qtm hx hy rfl (by omega) (by omega) lt ?_
     have:=qu8 s full k1 lt
     simp;omega
   rw[any_map,show ((subs (min n 7)).any fun _=>false)=false from List.any_eq_false.mpr (by simp)]
   simp
   exact hR _ _
 · refine q43 a _ d2 (.ref l) Q hn hw ht hx hy hq nx ny fun R X z s b=> ?_
   have sp:=qqk fl.u0 (wk.first hG).choose_spec.1 (wk.first hG).choose_spec.2
   have e1:=b.one b1
   have ea:((List.range n).all fun i=>decide (sm n (R i)=2 * w i))=false:=by
     cases h:((List.range n).all fun i=>decide (sm n (R i)=2 * w i))with
     | false=>rfl
     | true =>
       have h:=List.all_eq_true.mp h
       have:tot n R=2 * sm n w:=by
         unfold tot;rw[← qdz];exact qal fun i hi=>of_decide_eq_true (h i (List.mem_range.mpr hi))
       omega
   rw[ea]
   obtain ⟨gs,pm,es⟩:=q1d (ky G)
   rw[es]at hl2 sh
   have hT:(T++(X1++X))[l]? =some (.lst (gs.map fun i:Nat=>.int i)):=by
     rw[← List.append_assoc,List.getElem?_append_left (List.getElem?_eq_some_iff.mp hl2).1,hl2];simp
   rw[List.append_assoc]
   generalize T++(X1++X)=S0 at hT ⊢
   have nd:gs.Nodup:=pm.nodup_iff.mpr wk.ndG
   have lt:∀ i ∈ gs,i < n:=fun i hi=>wk.ltG i (pm.mem_iff.mp hi)
   have gl:gs.length≤12:=by
     have:=List.Nodup.length_le_of_subset (l₁:=gs) (l₂:=List.range n) nd fun g hg=>List.mem_range.mpr (lt g hg)
     simp at this;omega
   have ss:=qyd fl wk hr hG pm
   obtain ⟨c,hc⟩:∃ c:Nat→Int,(gs.map fun i:Nat=>D.int i)=vec gs.length fun i=>.int (c i):=⟨fun i=>(gs.getD i 0:Nat),by
     rw[qmm gs 0,qqb,qbm,← qmm gs 0]⟩
   rw[List.map_map,show (D.int ∘ fun i:Nat=>(i:Int))=fun i:Nat=>D.int i from rfl]at sh
   have hA:At S0 (.ref l) (vec gs.length fun i=>.int (c i)):=.inr ⟨l,rfl,by rw[hT,hc]⟩
   have is:qa6 .Is (.ref l) .non S0=.ok (.bl false) S0:=by
     show isM false (look (.ref l) S0) (look .non S0) S0=_
     rw[hA.look];rfl
   have sr:biF (.sorted false) [.ref l] S0=.ok (.lst (gs.map fun i:Nat=>.int i)) S0:=by
     show qcn false [.ref l] S0=_
     unfold qcn
     dsimp only
     rw[qh hT,show (gs.map fun i:Nat=>D.int i)=(gs.map fun i:Nat=>(i:Int)).map D.int by simp]
     dsimp only
     rw[qbu]
     dsimp only
     rw[if_pos (decide_eq_true (by simp;omega)),← es,← qip (sortI_perm _ |>.symm |>.trans (sortI_perm _)) (qei _)]
     rfl
   have pg:(D.lst (gs.map fun i:Nat=>.int i)).pln=true:=by rw[hc];exact qte (w:=c)
   have dg:(D.lst (gs.map fun i:Nat=>.int i)).dep≤60:=by rw[hc];exact Nat.le_trans (qtf (w:=c)) (by decide)
   have nes:qa6 .NotEq (.ref l) (.lst (gs.map fun i:Nat=>.int i)) S0=.ok (.bl false) S0:=q1g (qh hT) pg dg
   have ls:qdv (.ref l) S0=.ok (.int gs.length) S0:=by
     unfold qdv
     rw[qh hT,show (gs.map fun i:Nat=>D.int i)=(gs.map fun i:Nat=>(i:Int)).map D.int by simp]
     dsimp only
     rw[qbu]
     dsimp only
     rw[if_pos (decide_eq_true (by unfold scanBound;simp;omega)),q83 (by
       refine List.Pairwise.map _ (fun a b h=> ?_) nd
       intro e;exact h (Int.ofNat.inj e))]
     simp
   have ln:biF .len [.ref l] S0=.ok (.int gs.length) S0:=by rw[hA.len,qbm]
   obtain ⟨src,sq1,sq2⟩:=hA.seq
   rw[← hc]at sq1
   have li:=hA.list
   rw[← hc]at li
   ((try simp);rw[qa];try simp)
   rw[is]
   simp
   ((try simp);rw[qa];try simp)
   rw[hA.isl]
   simp
   rw[ln]
   simp
   refine qql hA (by omega) ?_
   ((try simp);rw[qa];try simp)
   rw[sr]
   simp
   rw[nes]
   simp
   rw[ls]
   simp
   rw[ln]
   simp
   rw[sq1]
   simp
   refine⟨qt (by omega),qdh (l:=gs) (e:=fun i:Nat=>.int i) (g:=fun _=>.bl true) sq2 (fun i hi=> ?_) ?_⟩
   · have:=lt i hi
     simp [← hq]
     omega
   rw[all_map,show (gs.all fun _=>true)=true from List.all_eq_true.mpr (by simp)]
   simp
   ((try simp);rw[qa];try simp)
   rw[li]
   simp
   ((try simp);rw[qa];try simp [qh hT])
   rw[qml hT (by simp;omega)]
   simp
   generalize S0.set l (.lst ((gs.map fun i:Nat=>D.int i)++[.int 0]))=S1
   have hk:nlD gs=qa8 gs.length c:=by unfold nlD qa8;rw[hc]
   rw[show D.lst (gs.map fun i:Nat=>D.int i)=nlD gs from rfl]
   generalize hk0:nlD gs=kd
   rw[hk0]at hk
   ((try simp);rw[qa];try simp)
   refine qtm hx hy hk0 (by omega) (by omega) lt ?_
   simp [ss]
   refine sh _ _ (fun h=>by rw[hG]at h;cases h) fun _ X2 l2 _ h2=> ?_
   rw[qhw h2 (fun d hd=>by obtain ⟨i,_,rfl⟩:=List.mem_map.mp hd;exact qci),show D.lst (gs.map fun i:Nat=>D.int i)=kd from hk0]
   simp
   refine q0z (m:=3) hk.symm (by omega) ?_
   exact hR _ _
theorem qva (a:Addr) (ms:List Int) (Q:Fl × Env→Sto→Prop) (hR:∀ Γ S,Q (.rt (.bl true),Γ) S):Ok (qw qy qu qf7 (some (.at_ a)::some (.ref 0)::List.replicate 11 none) [qz7 ms]) Q:=by
 unfold qf7
 ((try simp);rw[qa];try simp)
 refine qp q4g (by decide) (by decide) fun sa c1 a0 a1 hc1=> ?_
 refine qp hc1 (by decide) (by decide) fun sb c2 b0 b1 hc2=> ?_
 rw[qdf (by simp)]
 simp
 ((try simp);rw[qa];try simp)
 refine qp hc2 (by decide) (by decide) fun si c3 i0 i1 hc3=> ?_
 obtain ⟨n,hn,en⟩:∃ n:Nat,n≤12∧atI [D.int sa,D.int sb] si=some (.int n):=by
   by_cases h:si=0
   · subst h;exact⟨sa.toNat,by omega,by rw[Int.toNat_of_nonneg a0];rfl⟩
   · have:si=1:=by omega
     subst this;exact⟨sb.toNat,by omega,by rw[Int.toNat_of_nonneg b0];rfl⟩
 simp
 rw[en]
 simp
 refine qnx hc3 (by omega) fun ns c4 hl hb hc4=> ?_
 rw[qhw (xs:=ns.map D.int) (by simp) (fun d hd=>by obtain ⟨p,_,rfl⟩:=List.mem_map.mp hd;exact qci)]
 obtain ⟨w,e0,hw⟩:∃ w:Nat→Int,D.lst (ns.map D.int)=qa8 n w∧∀ i < n,0≤w i:=⟨fun i=>ns.getD i 0,by unfold qa8;rw[← qqb,← hl,← qmm],fun i hi=>(hb _ (by simp [hl,hi])).1⟩
 rw[e0]
 have hlen:∀ S,biF .len [qa8 n w] S=.ok (.int n) S:=fun S=>by simp [qa8]
 generalize D.lst [D.int sa,D.int sb]=d2
 generalize hx:qa8 n w=x at *
 simp
 ((try simp);rw[qa];try simp)
 rw[hlen]
 simp
 ((try simp);rw[qa];try simp)
 refine qta hc4 (by omega) fun ts c5 X1 ht hc5=> ?_
 ((try simp);rw[qa];try simp)
 refine qp hc5 (by decide) (by decide) fun t3 c6 _ _ hc6=> ?_
 simp
 refine qdw (fun h=> ?_) fun h=> ?_
 · ((try simp);rw[qa];try simp)
   refine quz hc6 (by omega) fun R0 c7 X2 hP hc7=> ?_
   obtain ⟨v,hv⟩:∃ v:Nat→Int,∀ i,v i=sm n (R0 i) / 2:=⟨fun i=>sm n (R0 i) / 2,fun _=>rfl⟩
   have hv2:∀ i < n,sm n (R0 i)=2 * v i:=fun i hi=>by rw[hv,← qwv (hP.ev i hi)]
   have hv0:∀ i < n,0≤v i:=fun i hi=>by have:=qd9 (hP.pos i hi);have:=hv2 i hi;omega
   simp [qs7,qm]
   refine⟨qt (by omega),qf5 (g:=fun i=>.int (v i)) qq (fun i hi=> ?_) ?_⟩
   · simp [qwk]
     rw[qv9 (show qe5 _ 2 from ⟨by decide,by decide⟩)]
     simp [hv]
   generalize hx':qa8 n v=x'
   rw[show D.lst (vec n fun i=>D.int (v i))=x' from hx']
   exact q1h a _ d2 Q hn hv0 ht hR hx' rfl rfl
 · exact q1h a _ d2 Q hn hw ht hR hx rfl rfl
theorem qq7 (a:Addr) (ms:List Int):∃ Γ' S',qw qy qu qf7 (some (.at_ a)::some (.ref 0)::List.replicate 11 none) [qz7 ms]=.ok (.rt (.bl true),Γ') S' :=
 q82 (qva a ms _ fun _ _=>rfl)
end T3
set_option maxHeartbeats 4000000
namespace K22
open PySem PySem.Spec PyProof.Rows L2 T3
noncomputable def top (i : Nat) : Stmt := PySem.Challenge.pw_outlivers_k22_whole_all_laid_or_a_list_s.main.body.getD i (.Pass ⟨0, 0, 0, 0⟩)
noncomputable def bs:List Str:=["enumerate","list","min","len","range","sorted","isinstance","tuple","all","zip","int","bool","str","max","sum","any","set"]
noncomputable abbrev qh2:Stmt:=top 3
noncomputable abbrev qh3:Stmt:=top 4
noncomputable abbrev qo7:Stmt:=top 2
noncomputable abbrev qds:Stmt:=top 5
noncomputable abbrev qo8:Stmt:=top 6
noncomputable abbrev qh4:Stmt:=top 7
noncomputable abbrev qo9:Stmt:=top 1
noncomputable abbrev qjz:Stmt:=top 9
noncomputable abbrev qmw:Stmt:=top 11
noncomputable abbrev qmx:Stmt:=top 12
noncomputable abbrev qji:Stmt:=top 14
noncomputable abbrev qmy:Stmt:=top 15
noncomputable abbrev qj0:Stmt:=top 16
noncomputable abbrev qg9:Stmt:=top 17
noncomputable abbrev qeb:Stmt:=top 18
noncomputable abbrev qec:Stmt:=top 19
noncomputable abbrev qfv:Stmt:=top 20
noncomputable abbrev qfw:Stmt:=top 21
noncomputable abbrev qe1:Stmt:=top 22
noncomputable abbrev qpa:Stmt:=top 23
noncomputable abbrev qmz:Stmt:=top 24
noncomputable abbrev qj1:Stmt:=top 25
noncomputable abbrev qge:Stmt:=top 26
noncomputable abbrev qj2:Stmt:=top 27
noncomputable abbrev qm0:Stmt:=top 28
section
variable {P:Program} {w:World} {K:PySem.W.Frag} {mg:Str→Option Value} {base:Heap}
theorem qvb {f:Addr} {fd:FuncData} (F:Fun K "_law_box" "_law_box" qji f fd) (hz:mg "list"=none):qef P w K mg base CX0 1 f fd ["_law_script"] (T3.sp_box K):=by
 refine F.ok (qks (N:=["_law_script"]) (by decide +kernel)) (fun vs H Q E h=> ?_) (fun cdv A outer s H vs Q E hr h=> ?_)
 · obtain ⟨a,ns,rfl,_⟩:=h
   rfl
 · obtain ⟨a,ns,rfl,hS,hl,k⟩:=h
   refine⟨_,(q1s (qyi (qyp (qcu (qh9 (q2i (K:=K) rfl) rfl hz qkl (qcu (qrl (kSlL (K:=K) rfl) (pv 0) qvn (qvo qkz)) qh8)) (qcu qkz (qcu qkz (qcu qkz qh8))))))),?_⟩
   refine⟨_,rfl,_,rfl,a,_,rfl,hS,fun p hp=> ?_⟩
   refine⟨p,_,rfl,.inl (SqL.of qi),fun c hc=> ?_⟩
   refine⟨by show 4≤sizeLine;decide,fun b hb=> ?_⟩
   have nbc:c ≠ b:=q9 qi hb
   have hb1:qgg H _:=qgg.trans (qgg.upd (o:=.lst (qj3 (ns.map V.int) none (some 63))) hp) (qgg.upd (o:=.lst (qj3 (ns.map V.int) none (some 63))) hc)
   obtain ⟨ms,em⟩:=qxe ns none (some 63)
   refine k b c ms _ (hb1.free hb) ((qgg.upd hp).free hc) nbc (hb1.trans (qgg.upd hb)) qi ?_
   rw[qc nbc,qi,em]
end
theorem qn5:dOk ["wave","takers","tied","found","giver","taker","is_tied"] ["wave","takers","tied"] qh2 qhp 0 bs qej=true:=by decide +kernel
theorem qn6:dOk ["found","givers","given","wave","taker","giver","row"] ["found","givers","given"] qh3 qhr 0 bs qek=true:=by decide +kernel
theorem qvc:dOk ["given","unspent","tied","givers","takers","wave","found"] ["given","unspent","tied"] qo7 qf3 1 bs qiw=true:=by decide +kernel
theorem qha:dOk ["takers","room","taker"] ["takers","room"] qds qdl 0 bs qbz=true:=by decide +kernel
theorem qvd:dOk ["end","givers","takers","path","taker","giver"] ["end","givers","takers"] qo8 qox 0 bs qix=true:=by decide +kernel
theorem qn7:dOk ["path","given","unspent","room","end","start","backs","much","giver","taker","before"] ["path","given","unspent","room"] qh4 qht 0 bs qel=true:=by decide +kernel
theorem qve:dOk ["weights","tied","given","unspent","room","givers","takers","end"] ["weights","tied"] qo9 qc0 2 bs qiy=true:=by decide +kernel
theorem qq8:dOk ["ties","size","tied","one","other"] ["ties","size"] qjz qjs 0 bs qfk=true:=by decide +kernel
theorem qtz:dOk ["weights","ties","given","givers","takers"] ["weights","ties"] qmw qem 3 bs qgo=true:=by decide +kernel
theorem qt0:dOk ["weights","ties","given","givers","takers"] ["weights","ties"] qmx qeu 3 bs qg8=true:=by decide +kernel
theorem qt1:dOk ["_law_box_here","_law_many","_law_rest","_law_cell","_law_seed"] ["_law_box_here","_law_many"] qmy qus 0 bs qgn=true:=by decide +kernel
theorem qq9:dOk ["_law_box_here","_law_ways","_law_found","_law_k"] ["_law_box_here"] qj0 qfm 1 bs qfl=true:=by decide +kernel
theorem qh5:dOk ["_law_found","_law_size"] ["_law_found","_law_size"] qeb qd8 0 bs qcf=true:=by decide +kernel
theorem qh6:dOk ["_law_box_here","_law_many","_law_way","_law_row","_law_k","_law_at"] ["_law_box_here","_law_many"] qec qay 2 bs qcg=true:=by decide +kernel
theorem qki:dOk ["_law_box_here","_law_many","_law_ties","_law_share","_law_one","_law_other","_law_pair"] ["_law_box_here","_law_many"] qfv qb1 1 bs qdb=true:=by decide +kernel
theorem qkj:dOk ["_law_box_here","_law_many"] ["_law_box_here","_law_many"] qfw qb3 2 bs qdd=true:=by decide +kernel
theorem qjj:dOk ["_law_ties"] ["_law_ties"] qe1 qe0 0 bs qcs=true:=by decide +kernel
theorem qvf:dOk ["_law_ties","_law_one","_law_other"] ["_law_ties","_law_one","_law_other"] qpa qoz 0 bs qjb=true:=by decide +kernel
theorem qt2:dOk ["_law_ties","_law_size","_law_some"] ["_law_ties","_law_size","_law_some"] qmz qg3 1 bs qg2=true:=by decide +kernel
theorem qra:dOk ["_law_loads","_law_ties","_law_some","_law_there"] ["_law_loads","_law_ties","_law_some"] qj1 qfo 2 bs qfn=true:=by decide +kernel
theorem qm1:dOk ["_law_box_here","_law_size","_law_ties","_law_most","_law_rows","_law_one","_law_other"] ["_law_box_here","_law_size","_law_ties"] qge qco 1 bs qdx=true:=by decide +kernel
theorem qrb:dOk ["_law_size","_law_some","_law_at"] ["_law_size"] qj2 qjw 0 bs qfp=true:=by decide +kernel
theorem qt3:∀ d < 5,dOk ["_law_found","_law_due"] ["_law_found","_law_due"] qg9 (qgq d) (d+1) bs qen=true:=by decide +kernel
theorem q84:qlt ⟨["_law_script","_law_box_here","_law_sizes","_law_loads","_law_size","_law_ties","_law_handed","_law_lent","_law_found","_law_rows","_law_full","_law_lists_here","_law_kept"],qf qm0,fun _=>true,qu,6,bs⟩ qf7 ((qa1 qm0).drop 1)=true:=by decide +kernel
noncomputable def en (P:Params) (x:Str) (t:Nat) (v:Value):DictEntry:={ hash:=PyData.keyHash P x,key:=.str x t,val:=v }
noncomputable def fo (st:Stmt) (x:Str) (kV dc pm:Value) (an:Option Addr) (c ct:Value) (sl:Array (Option Value)):Obj:=⟨.type "function",none,.func (PySem.W.fnOf x x (qcw st) (qa1 st) (qf st) .none kV dc pm an c ct),sl⟩
noncomputable def hp (P:Params):PySem.W.Frag:=[(3,({ cls:=.type "dict",data:=Data.dict #[en P "__name__" 165 (.str "law_outlivers_k22_whole_all_laid_or_a_list_s" 281),en P "__doc__" 166 (.none),en P "__package__" 167 (.none),en P "__loader__" 168 (.builtin "__main__.__loader__#opaque"),en P "__spec__" 169 (.none),en P "__annotations__" 170 (.ref 6),en P "__builtins__" 171 (.ref 4),en P "__file__" 173 (.str "/claim/cut.py" 172),en P "__cached__" 174 (.none),en P "fullest" 194 (.ref 19),en P "reached" 200 (.ref 24),en P "new_takers" 213 (.ref 31),en P "new_givers" 226 (.ref 38),en P "first_with_room" 235 (.ref 45),en P "path_to" 247 (.ref 52),en P "give_along" 253 (.ref 57),en P "tie_table" 261 (.ref 62),en P "greatest" 269 (.ref 67),en P "shut_of" 280 (.ref 74),en P "_law_box" 289 (.ref 81),en P "_law_take" 300 (.ref 88),en P "_law_great" 310 (.ref 95),en P "_law_same" 316 (.ref 100),en P "_law_whole_list" 322 (.ref 105),en P "_law_weight_row" 334 (.ref 112),en P "_law_tie_list" 347 (.ref 119),en P "_law_any_ties" 355 (.ref 126),en P "_law_lent_ties" 362 (.ref 133),en P "_law_are" 371 (.ref 140),en P "_law_near" 377 (.ref 145),en P "_law_shuts" 383 (.ref 150),en P "_law_planted" 389 (.ref 155),en P "_law_lists" 395 (.ref 160),en P "law" 401 (.ref 165)] 34 }:Obj)),
 (18,({ cls:=.type "code",data:=Data.fields #[.str "fullest" 189,.str "fullest" 190,.str "/claim/cut.py" 191,.int 2 0,.int 2 0,.int 0 0,.int 0 0,.int 3 0,.ref 15,.bool true,.int 181 0,.ref 16,.none,.none,.none,.ref 17,.int 192 0,.int 2 0,.str "/claim/cut.py" 193] }:Obj)),
 (19,fo qo9 "fullest" (.none) (.none) (.str "outlivers.flow" 187) (none) (.ref 18) (.none) #[]),
 (23,({ cls:=.type "code",data:=Data.fields #[.str "reached" 195,.str "reached" 196,.str "/claim/cut.py" 197,.int 12 0,.int 3 0,.int 0 0,.int 0 0,.int 3 0,.ref 20,.bool true,.int 181 0,.ref 21,.none,.none,.none,.ref 22,.int 198 0,.int 12 0,.str "/claim/cut.py" 199] }:Obj)),
 (24,fo qo7 "reached" (.none) (.none) (.str "outlivers.flow" 187) (none) (.ref 23) (.none) #[]),
 (30,({ cls:=.type "code",data:=Data.fields #[.str "new_takers" 201,.str "new_takers" 202,.str "/claim/cut.py" 203,.int 20 0,.int 3 0,.int 0 0,.int 0 0,.int 3 0,.ref 25,.bool true,.int 181 0,.ref 26,.none,.ref 27,.ref 28,.ref 29,.int 211 0,.int 20 0,.str "/claim/cut.py" 212] }:Obj)),
 (31,fo qh2 "new_takers" (.none) (.none) (.str "outlivers.flow" 187) (none) (.ref 30) (.none) #[]),
 (37,({ cls:=.type "code",data:=Data.fields #[.str "new_givers" 214,.str "new_givers" 215,.str "/claim/cut.py" 216,.int 28 0,.int 3 0,.int 0 0,.int 0 0,.int 3 0,.ref 32,.bool true,.int 181 0,.ref 33,.none,.ref 34,.ref 35,.ref 36,.int 224 0,.int 28 0,.str "/claim/cut.py" 225] }:Obj)),
 (38,fo qh3 "new_givers" (.none) (.none) (.str "outlivers.flow" 187) (none) (.ref 37) (.none) #[]),
 (44,({ cls:=.type "code",data:=Data.fields #[.str "first_with_room" 227,.str "first_with_room" 228,.str "/claim/cut.py" 229,.int 36 0,.int 2 0,.int 0 0,.int 0 0,.int 3 0,.ref 39,.bool true,.int 181 0,.ref 40,.none,.ref 41,.ref 42,.ref 43,.int 233 0,.int 36 0,.str "/claim/cut.py" 234] }:Obj)),
 (45,fo qds "first_with_room" (.none) (.none) (.str "outlivers.flow" 187) (none) (.ref 44) (.none) #[]),
 (51,({ cls:=.type "code",data:=Data.fields #[.str "path_to" 236,.str "path_to" 237,.str "/claim/cut.py" 238,.int 41 0,.int 3 0,.int 0 0,.int 0 0,.int 3 0,.ref 46,.bool true,.int 181 0,.ref 47,.none,.ref 48,.ref 49,.ref 50,.int 245 0,.int 41 0,.str "/claim/cut.py" 246] }:Obj)),
 (52,fo qo8 "path_to" (.none) (.none) (.str "outlivers.flow" 187) (none) (.ref 51) (.none) #[]),
 (56,({ cls:=.type "code",data:=Data.fields #[.str "give_along" 248,.str "give_along" 249,.str "/claim/cut.py" 250,.int 49 0,.int 4 0,.int 0 0,.int 0 0,.int 3 0,.ref 53,.bool true,.int 181 0,.ref 54,.none,.none,.none,.ref 55,.int 251 0,.int 49 0,.str "/claim/cut.py" 252] }:Obj)),
 (57,fo qh4 "give_along" (.none) (.none) (.str "outlivers.flow" 187) (none) (.ref 56) (.none) #[]),
 (61,({ cls:=.type "code",data:=Data.fields #[.str "tie_table" 256,.str "tie_table" 257,.str "/claim/cut.py" 258,.int 61 0,.int 2 0,.int 0 0,.int 0 0,.int 3 0,.ref 58,.bool true,.int 181 0,.ref 59,.none,.none,.none,.ref 60,.int 259 0,.int 61 0,.str "/claim/cut.py" 260] }:Obj)),
 (62,fo qjz "tie_table" (.none) (.none) (.str "outlivers.ties" 254) (none) (.ref 61) (.none) #[]),
 (66,({ cls:=.type "code",data:=Data.fields #[.str "greatest" 264,.str "greatest" 265,.str "/claim/cut.py" 266,.int 70 0,.int 2 0,.int 0 0,.int 0 0,.int 3 0,.ref 63,.bool true,.int 181 0,.ref 64,.none,.none,.none,.ref 65,.int 267 0,.int 70 0,.str "/claim/cut.py" 268] }:Obj)),
 (67,fo qmw "greatest" (.none) (.none) (.str "outlivers.stakes" 262) (none) (.ref 66) (.none) #[]),
 (73,({ cls:=.type "code",data:=Data.fields #[.str "shut_of" 270,.str "shut_of" 271,.str "/claim/cut.py" 272,.int 73 0,.int 2 0,.int 0 0,.int 0 0,.int 3 0,.ref 68,.bool true,.int 181 0,.ref 69,.none,.ref 70,.ref 71,.ref 72,.int 278 0,.int 73 0,.str "/claim/cut.py" 279] }:Obj)),
 (74,fo qmx "shut_of" (.none) (.none) (.str "outlivers.stakes" 262) (none) (.ref 73) (.none) #[]),
 (80,({ cls:=.type "code",data:=Data.fields #[.str "_law_box" 283,.str "_law_box" 284,.str "/claim/cut.py" 285,.int 77 0,.int 1 0,.int 0 0,.int 0 0,.int 3 0,.ref 75,.bool true,.int 181 0,.ref 76,.none,.ref 77,.ref 78,.ref 79,.int 287 0,.int 77 0,.str "/claim/cut.py" 288] }:Obj)),
 (81,fo qji "_law_box" (.none) (.none) (.str "law_outlivers_k22_whole_all_laid_or_a_list_s" 281) (none) (.ref 80) (.none) #[]),
 (87,({ cls:=.type "code",data:=Data.fields #[.str "_law_take" 290,.str "_law_take" 291,.str "/claim/cut.py" 292,.int 79 0,.int 2 0,.int 0 0,.int 0 0,.int 3 0,.ref 82,.bool true,.int 181 0,.ref 83,.none,.ref 84,.ref 85,.ref 86,.int 298 0,.int 79 0,.str "/claim/cut.py" 299] }:Obj)),
 (88,fo qmy "_law_take" (.none) (.none) (.str "law_outlivers_k22_whole_all_laid_or_a_list_s" 281) (none) (.ref 87) (.none) #[]),
 (94,({ cls:=.type "code",data:=Data.fields #[.str "_law_great" 301,.str "_law_great" 302,.str "/claim/cut.py" 303,.int 95 0,.int 1 0,.int 0 0,.int 0 0,.int 3 0,.ref 89,.bool true,.int 181 0,.ref 90,.none,.ref 91,.ref 92,.ref 93,.int 308 0,.int 95 0,.str "/claim/cut.py" 309] }:Obj)),
 (95,fo qj0 "_law_great" (.none) (.none) (.str "law_outlivers_k22_whole_all_laid_or_a_list_s" 281) (none) (.ref 94) (.none) #[]),
 (99,({ cls:=.type "code",data:=Data.fields #[.str "_law_same" 311,.str "_law_same" 312,.str "/claim/cut.py" 313,.int 105 0,.int 2 0,.int 0 0,.int 0 0,.int 3 0,.ref 96,.bool true,.int 181 0,.ref 97,.none,.none,.none,.ref 98,.int 314 0,.int 105 0,.str "/claim/cut.py" 315] }:Obj)),
 (100,fo qg9 "_law_same" (.none) (.none) (.str "law_outlivers_k22_whole_all_laid_or_a_list_s" 281) (none) (.ref 99) (.none) #[]),
 (104,({ cls:=.type "code",data:=Data.fields #[.str "_law_whole_list" 317,.str "_law_whole_list" 318,.str "/claim/cut.py" 319,.int 115 0,.int 2 0,.int 0 0,.int 0 0,.int 3 0,.ref 101,.bool true,.int 181 0,.ref 102,.none,.none,.none,.ref 103,.int 320 0,.int 115 0,.str "/claim/cut.py" 321] }:Obj)),
 (105,fo qeb "_law_whole_list" (.none) (.none) (.str "law_outlivers_k22_whole_all_laid_or_a_list_s" 281) (none) (.ref 104) (.none) #[]),
 (111,({ cls:=.type "code",data:=Data.fields #[.str "_law_weight_row" 323,.str "_law_weight_row" 324,.str "/claim/cut.py" 325,.int 119 0,.int 2 0,.int 0 0,.int 0 0,.int 3 0,.ref 106,.bool true,.int 181 0,.ref 107,.none,.ref 108,.ref 109,.ref 110,.int 332 0,.int 119 0,.str "/claim/cut.py" 333] }:Obj)),
 (112,fo qec "_law_weight_row" (.none) (.none) (.str "law_outlivers_k22_whole_all_laid_or_a_list_s" 281) (none) (.ref 111) (.none) #[]),
 (118,({ cls:=.type "code",data:=Data.fields #[.str "_law_tie_list" 335,.str "_law_tie_list" 336,.str "/claim/cut.py" 337,.int 133 0,.int 2 0,.int 0 0,.int 0 0,.int 3 0,.ref 113,.bool true,.int 181 0,.ref 114,.none,.ref 115,.ref 116,.ref 117,.int 345 0,.int 133 0,.str "/claim/cut.py" 346] }:Obj)),
 (119,fo qfv "_law_tie_list" (.none) (.none) (.str "law_outlivers_k22_whole_all_laid_or_a_list_s" 281) (none) (.ref 118) (.none) #[]),
 (125,({ cls:=.type "code",data:=Data.fields #[.str "_law_any_ties" 348,.str "_law_any_ties" 349,.str "/claim/cut.py" 350,.int 146 0,.int 2 0,.int 0 0,.int 0 0,.int 3 0,.ref 120,.bool true,.int 181 0,.ref 121,.none,.ref 122,.ref 123,.ref 124,.int 353 0,.int 146 0,.str "/claim/cut.py" 354] }:Obj)),
 (126,fo qfw "_law_any_ties" (.none) (.none) (.str "law_outlivers_k22_whole_all_laid_or_a_list_s" 281) (none) (.ref 125) (.none) #[]),
 (132,({ cls:=.type "code",data:=Data.fields #[.str "_law_lent_ties" 356,.str "_law_lent_ties" 357,.str "/claim/cut.py" 358,.int 150 0,.int 1 0,.int 0 0,.int 0 0,.int 3 0,.ref 127,.bool true,.int 181 0,.ref 128,.none,.ref 129,.ref 130,.ref 131,.int 360 0,.int 150 0,.str "/claim/cut.py" 361] }:Obj)),
 (133,fo qe1 "_law_lent_ties" (.none) (.none) (.str "law_outlivers_k22_whole_all_laid_or_a_list_s" 281) (none) (.ref 132) (.none) #[]),
 (139,({ cls:=.type "code",data:=Data.fields #[.str "_law_are" 363,.str "_law_are" 364,.str "/claim/cut.py" 365,.int 154 0,.int 3 0,.int 0 0,.int 0 0,.int 3 0,.ref 134,.bool true,.int 181 0,.ref 135,.none,.ref 136,.ref 137,.ref 138,.int 369 0,.int 154 0,.str "/claim/cut.py" 370] }:Obj)),
 (140,fo qpa "_law_are" (.none) (.none) (.str "law_outlivers_k22_whole_all_laid_or_a_list_s" 281) (none) (.ref 139) (.none) #[]),
 (144,({ cls:=.type "code",data:=Data.fields #[.str "_law_near" 372,.str "_law_near" 373,.str "/claim/cut.py" 374,.int 158 0,.int 3 0,.int 0 0,.int 0 0,.int 3 0,.ref 141,.bool true,.int 181 0,.ref 142,.none,.none,.none,.ref 143,.int 375 0,.int 158 0,.str "/claim/cut.py" 376] }:Obj)),
 (145,fo qmz "_law_near" (.none) (.none) (.str "law_outlivers_k22_whole_all_laid_or_a_list_s" 281) (none) (.ref 144) (.none) #[]),
 (149,({ cls:=.type "code",data:=Data.fields #[.str "_law_shuts" 378,.str "_law_shuts" 379,.str "/claim/cut.py" 380,.int 160 0,.int 3 0,.int 0 0,.int 0 0,.int 3 0,.ref 146,.bool true,.int 181 0,.ref 147,.none,.none,.none,.ref 148,.int 381 0,.int 160 0,.str "/claim/cut.py" 382] }:Obj)),
 (150,fo qj1 "_law_shuts" (.none) (.none) (.str "law_outlivers_k22_whole_all_laid_or_a_list_s" 281) (none) (.ref 149) (.none) #[]),
 (154,({ cls:=.type "code",data:=Data.fields #[.str "_law_planted" 384,.str "_law_planted" 385,.str "/claim/cut.py" 386,.int 163 0,.int 3 0,.int 0 0,.int 0 0,.int 3 0,.ref 151,.bool true,.int 181 0,.ref 152,.none,.none,.none,.ref 153,.int 387 0,.int 163 0,.str "/claim/cut.py" 388] }:Obj)),
 (155,fo qge "_law_planted" (.none) (.none) (.str "law_outlivers_k22_whole_all_laid_or_a_list_s" 281) (none) (.ref 154) (.none) #[]),
 (159,({ cls:=.type "code",data:=Data.fields #[.str "_law_lists" 390,.str "_law_lists" 391,.str "/claim/cut.py" 392,.int 172 0,.int 1 0,.int 0 0,.int 0 0,.int 3 0,.ref 156,.bool true,.int 181 0,.ref 157,.none,.none,.none,.ref 158,.int 393 0,.int 172 0,.str "/claim/cut.py" 394] }:Obj)),
 (160,fo qj2 "_law_lists" (.none) (.none) (.str "law_outlivers_k22_whole_all_laid_or_a_list_s" 281) (none) (.ref 159) (.none) #[]),
 (164,({ cls:=.type "code",data:=Data.fields #[.str "law" 396,.str "law" 397,.str "/claim/cut.py" 398,.int 177 0,.int 1 0,.int 0 0,.int 0 0,.int 3 0,.ref 161,.bool true,.int 181 0,.ref 162,.none,.none,.none,.ref 163,.int 399 0,.int 177 0,.str "/claim/cut.py" 400] }:Obj)),
 (165,fo qm0 "law" (.none) (.none) (.str "law_outlivers_k22_whole_all_laid_or_a_list_s" 281) (none) (.ref 164) (.none) #[])]
noncomputable def ads:List Addr:=[3,18,19,23,24,30,31,37,38,44,45,51,52,56,57,61,62,66,67,73,74,80,81,87,88,94,95,99,100,104,105,111,112,118,119,125,126,132,133,139,140,144,145,149,150,154,155,159,160,164,165]
noncomputable def Q : Program := { PySem.Challenge.pw_outlivers_k22_whole_all_laid_or_a_list_s with main := { PySem.Challenge.pw_outlivers_k22_whole_all_laid_or_a_list_s.main with body := [top 1, top 2, top 3, top 4, top 5, top 6, top 7, top 9, top 11, top 12, top 14, top 15, top 16, top 17, top 18, top 19, top 20, top 21, top 22, top 23, top 24, top 25, top 26, top 27, top 28] } }
theorem all {l:PySem.W.OpenLaw} {w:World} {mg:Str→Option Value} {fa:Addr} {h:Heap} (X:(hp w.params).In h) (G:h.Ns mainGlobals mg) (hfa:mg "law"=some (.ref fa)):∃ fd:FuncData,(∀ (s:Shared) (v:Value),BindsTo s fd ⟨[v],[]⟩ [("_law_script",v)])∧∀ base:Heap,(hp w.params).In base→base.Ns mainGlobals mg→qef l.prog w (hp w.params) mg base CX0 60 fa fd ["_law_script"] (T3.sp_law (hp w.params)):=by
 have e:=hfa.symm.trans (PySem.W.mg_of X G (show PySem.W.nsIn (hp w.params) mainGlobals "law"=some (some (.ref 165)) from rfl))
 cases e
 have B:∀ b ∈ bs,mg b=none:=by
   intro b hb
   simp only [bs,List.mem_cons,List.not_mem_nil,or_false]at hb
   rcases hb with rfl | rfl | rfl | rfl | rfl | rfl | rfl | rfl | rfl | rfl | rfl | rfl | rfl | rfl | rfl | rfl | rfl <;> exact PySem.W.mg_none_of X G (by kernel_rfl)
 refine⟨PySem.W.fnOf "law" "law" (qcw qm0) (qa1 qm0) (qf qm0) .none (.none) (.none) (.str "law_outlivers_k22_whole_all_laid_or_a_list_s" 281) (none) (.ref 164) (.none),fun s v=>.of_eq rfl,fun base _ _=> ?_⟩
 have N_new_takers:FnT CX0 l.prog w (hp w.params) mg base "new_takers" 3 1 qbx:=qah (f:=31) (ps:=["wave","takers","tied"]) X G rfl rfl rfl rfl (qp2 fun _ _ _=>rfl) B .nil qn5
 have N_new_givers:FnT CX0 l.prog w (hp w.params) mg base "new_givers" 3 1 qby:=qah (f:=38) (ps:=["found","givers","given"]) X G rfl rfl rfl rfl (qp2 fun _ _ _=>rfl) B .nil qn6
 have N_reached:FnT CX0 l.prog w (hp w.params) mg base "reached" 3 2 qd6:=qah (f:=24) (ps:=["given","unspent","tied"]) X G rfl rfl rfl rfl (qp2 fun _ _ _=>rfl) B (.cons N_new_takers (.cons N_new_givers .nil)) qvc
 have N_first_with_room:FnT CX0 l.prog w (hp w.params) mg base "first_with_room" 2 1 qap:=qah (f:=45) (ps:=["takers","room"]) X G rfl rfl rfl rfl (qis fun _ _=>rfl) B .nil qha
 have N_path_to:FnT CX0 l.prog w (hp w.params) mg base "path_to" 3 1 qd7:=qah (f:=52) (ps:=["end","givers","takers"]) X G rfl rfl rfl rfl (qp2 fun _ _ _=>rfl) B .nil qvd
 have N_give_along:FnT CX0 l.prog w (hp w.params) mg base "give_along" 4 1 qb0:=qah (f:=57) (ps:=["path","given","unspent","room"]) X G rfl rfl rfl rfl (len4 fun _ _ _ _=>rfl) B .nil qn7
 have N_fullest:FnT CX0 l.prog w (hp w.params) mg base "fullest" 2 3 qcd:=qah (f:=19) (ps:=["weights","tied"]) X G rfl rfl rfl rfl (qis fun _ _=>rfl) B (.cons N_reached (.cons N_first_with_room (.cons N_path_to (.cons N_give_along .nil)))) qve
 have N_tie_table:FnT CX0 l.prog w (hp w.params) mg base "tie_table" 2 1 qa7:=qah (f:=62) (ps:=["ties","size"]) X G rfl rfl rfl rfl (qis fun _ _=>rfl) B .nil qq8
 have N_greatest:FnT CX0 l.prog w (hp w.params) mg base "greatest" 2 4 qce:=qah (f:=67) (ps:=["weights","ties"]) X G rfl rfl rfl rfl (qis fun _ _=>rfl) B (.cons N_fullest (.cons N_tie_table .nil)) qtz
 have N_shut_new:FnT CX0 l.prog w (hp w.params) mg base "shut_of" 2 4 qcl:=qah (f:=74) (ps:=["weights","ties"]) X G rfl rfl rfl rfl (qis fun _ _=>rfl) B (.cons N_fullest (.cons N_tie_table .nil)) qt0
 have N_law_box:=q98 (qvb (P:=l.prog) (w:=w) (base:=base) (qpl (K:=hp w.params) (f:=81) (st:=qji) rfl rfl rfl) (B "list" (by decide +kernel))) (PySem.W.mg_of X G (show PySem.W.nsIn (hp w.params) mainGlobals "_law_box"=some (some (.ref 81)) from rfl)) rfl (.all (qz8 fun _=>rfl))
 have N_law_take:FnT CX0 l.prog w (hp w.params) mg base "_law_take" 2 1 qx:=qah (f:=88) (ps:=["_law_box_here","_law_many"]) X G rfl rfl rfl rfl (qis fun _ _=>rfl) B .nil qt1
 have N_law_great:FnT CX0 l.prog w (hp w.params) mg base "_law_great" 1 2 qdn:=qah (f:=95) (ps:=["_law_box_here"]) X G rfl rfl rfl rfl (qz8 fun _=>rfl) B (.cons N_law_take .nil) qq9
 have N_law_same:∀ d≤5,FnT CX0 l.prog w (hp w.params) mg base "_law_same" 2 (d+1) (qas d):=by
   intro d
   induction d with
   | zero=>intro _;exact qabl X G (f:=100) (st:=qg9) (ps:=["_law_found","_law_due"]) rfl rfl rfl rfl (qis fun _ _=>rfl) (qks (N:=["_law_found","_law_due"]) (by decide +kernel))
   | succ d ih=>intro hd;exact qah (f:=100) (ps:=["_law_found","_law_due"]) X G rfl rfl rfl rfl (qis fun _ _=>rfl) B (.cons (ih (by omega)) .nil) (qt3 d (by omega))
 have N_law_same:=N_law_same 5 (Nat.le_refl _)
 have N_law_whole_list:FnT CX0 l.prog w (hp w.params) mg base "_law_whole_list" 2 1 qba:=qah (f:=105) (ps:=["_law_found","_law_size"]) X G rfl rfl rfl rfl (qis fun _ _=>rfl) B .nil qh5
 have N_law_weight_row:FnT CX0 l.prog w (hp w.params) mg base "_law_weight_row" 2 3 qbc:=qah (f:=112) (ps:=["_law_box_here","_law_many"]) X G rfl rfl rfl rfl (qis fun _ _=>rfl) B (.cons N_law_take (.cons N_law_great .nil)) qh6
 have N_law_tie_list:FnT CX0 l.prog w (hp w.params) mg base "_law_tie_list" 2 2 qb2:=qah (f:=119) (ps:=["_law_box_here","_law_many"]) X G rfl rfl rfl rfl (qis fun _ _=>rfl) B (.cons N_law_take .nil) qki
 have N_law_any_ties:FnT CX0 l.prog w (hp w.params) mg base "_law_any_ties" 2 3 qb4:=qah (f:=126) (ps:=["_law_box_here","_law_many"]) X G rfl rfl rfl rfl (qis fun _ _=>rfl) B (.cons N_law_take (.cons N_law_tie_list .nil)) qkj
 have N_law_lent_ties:FnT CX0 l.prog w (hp w.params) mg base "_law_lent_ties" 1 1 qa3:=qah (f:=133) (ps:=["_law_ties"]) X G rfl rfl rfl rfl (qz8 fun _=>rfl) B .nil qjj
 have N_law_are:FnT CX0 l.prog w (hp w.params) mg base "_law_are" 3 1 qch:=qah (f:=140) (ps:=["_law_ties","_law_one","_law_other"]) X G rfl rfl rfl rfl (qp2 fun _ _ _=>rfl) B .nil qvf
 have N_law_near:FnT CX0 l.prog w (hp w.params) mg base "_law_near" 3 2 qeo:=qah (f:=145) (ps:=["_law_ties","_law_size","_law_some"]) X G rfl rfl rfl rfl (qp2 fun _ _ _=>rfl) B (.cons N_law_are .nil) qt2
 have N_law_shuts:FnT CX0 l.prog w (hp w.params) mg base "_law_shuts" 3 3 qdo:=qah (f:=150) (ps:=["_law_loads","_law_ties","_law_some"]) X G rfl rfl rfl rfl (qp2 fun _ _ _=>rfl) B (.cons N_law_near .nil) qra
 have N_law_planted:FnT CX0 l.prog w (hp w.params) mg base "_law_planted" 3 2 qcp:=qah (f:=155) (ps:=["_law_box_here","_law_size","_law_ties"]) X G rfl rfl rfl rfl (qp2 fun _ _ _=>rfl) B (.cons N_law_take (.cons N_law_are .nil)) qm1
 have N_law_lists:FnT CX0 l.prog w (hp w.params) mg base "_law_lists" 1 1 qdp:=qah (f:=160) (ps:=["_law_size"]) X G rfl rfl rfl rfl (qz8 fun _=>rfl) B .nil qrb
 exact(q8l (P:=l.prog) (w:=w) (base:=base) (qpl (st:=qm0) rfl rfl rfl) (qks (N:=["_law_script","_law_box_here","_law_sizes","_law_loads","_law_size","_law_ties","_law_handed","_law_lent","_law_found","_law_rows","_law_full","_law_lists_here","_law_kept"]) (by decide +kernel)) (by rfl) (by decide +kernel) (by decide +kernel) (by decide +kernel) (kb:=1) N_law_box (by decide) B (.cons N_greatest (.cons N_shut_new (.cons N_law_take (.cons N_law_same (.cons N_law_whole_list (.cons N_law_weight_row (.cons N_law_any_ties (.cons N_law_lent_ties (.cons N_law_shuts (.cons N_law_planted (.cons N_law_lists .nil))))))))))) q84 qq7).mono (by decide)
theorem walk {l:PySem.W.OpenLaw} {q:Program} {loose:List Str} {XP:(Str→Option Value)→Heap→Prop} {d:DefRec} (hn:l.most=some 63) (hdf:d.params.defaults=[]) (hd:d.name="law"):PySem.W.WalkO q loose XP (PySem.W.InK hp) l.row.toRowW d [] (fun f vs=>PySem.call f vs) :=
 L2.walk_of (n:=63) (k:=60) (x:="_law_script") (CX:=fun _=>CX0) (sp:=fun w=>T3.sp_law (hp w.params)) hn (by decide) hdf ⟨rfl,by decide,by decide⟩ (fun _ _ Y=>Y) (fun w mg fa h X G e=>all X G (hd ▸ e)) (fun _ _ a ns hl _ hS=>⟨a,ns,rfl,hS,hl,fun _=>rfl⟩) fun _ _ _ _ _ z=>z
noncomputable abbrev hook:PySem.W.Hook:=PySem.W.kHook hp ads (fun _=>rfl)
theorem left : PySem.W.LeftO PySem.Challenge.pw_outlivers_k22_whole_all_laid_or_a_list_s Q [] (fun s => PySem.W.xlAt Q [] s && PySem.W.recOk (PySem.W.RowW.records (PySem.W.OpenRow.toRowW PySem.Challenge.rw_outlivers_k22_whole_all_laid_or_a_list_s.row)) s) (PySem.W.Hook.obs hook) (PySem.W.Hook.val hook) 1664 := by
  intro w; kernel_rfl
theorem said : PySem.Challenge.rw_outlivers_k22_whole_all_laid_or_a_list_s.wellSaid = true := by kernel_rfl
end K22
open PySem PySem.W PyProof.Rows
set_option maxRecDepth 100000 in
set_option maxHeartbeats 0 in
theorem PySem.Challenge.cw_outlivers_k22_whole_all_laid_or_a_list_s_holds : PySem.Challenge.rw_outlivers_k22_whole_all_laid_or_a_list_s.Holds := by
  refine holds_law K22.said fun said => ?_
  refine holds_open (q := K22.Q) (loose := []) (Xt := (fun s => PySem.W.xlAt K22.Q [] s && PySem.W.recOk (PySem.W.RowW.records (PySem.W.OpenRow.toRowW PySem.Challenge.rw_outlivers_k22_whole_all_laid_or_a_list_s.row)) s)) (XP := XL K22.Q []) (Yf := Hook.obs K22.hook) (Ya := Hook.val K22.hook) (YP := Hook.says K22.hook) (N := 1664) K22.left (Hook.of K22.hook) (Hook.keeps K22.hook) (fun s e => xl_of s (Bool.and_eq_true_iff.mp e).1) XL.keeps (by rfl) (by rfl) (by rfl) (fun s e => recFacts_of (Bool.and_eq_true_iff.mp e).2) (by rfl) (by first | assumption | decide +kernel) (by decide +kernel) ⟨rfl, rfl, rfl, rfl, rfl, by decide +kernel⟩ ?hw ?hc
  · w_witness2
  exact K22.walk (l := PySem.Challenge.rw_outlivers_k22_whole_all_laid_or_a_list_s) rfl rfl rfl
