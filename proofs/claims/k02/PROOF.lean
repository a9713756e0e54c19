import PyProof.Rows.All
import Wide.All
import OpenK.AllK
import Wide.FinOn
import Lean
import PyProof.EqAt
import PyProof.EqKinds
import PyProof.TupleCall
import KE.KDictSum
import PySem.Challenge.RW_outlivers_k02_whose_ticket_it_is
set_option genSizeOf false
set_option Elab.async false
set_option linter.all false
set_option maxRecDepth 100000
namespace L2
open PySem PySem.Spec PyProof.Rows
noncomputable abbrev Key:=Sum Int Str
noncomputable def qgl:Key→Value→Bool
 | .inl k,v=>Value.isInt k v
 | .inr x,v=>Value.isStrOf x v
noncomputable def q37 (w:World):Key→Int
 | .inl k=>hashInt k
 | .inr x=>hashStr w x
theorem qy:∀ {k:Key} {v:Value},qgl k v=true→(∃ i t,k=Sum.inl i∧v=Value.int i t)∨(∃ x t,k=Sum.inr x∧v=Value.str x t)
 | .inl i,v,h=>by
   obtain ⟨t,e⟩:=Value.isInt_shape (k:=i) (v:=v) h
   exact .inl ⟨i,t,rfl,e⟩
 | .inr x,v,h=>by
   obtain ⟨t,e⟩:=Value.isStrOf_shape (x:=x) (v:=v) h
   exact .inr ⟨x,t,rfl,e⟩
theorem qov (i:Int) (t:Tok):qgl (.inl i) (.int i t)=true:=by simp [qgl,Value.isInt]
theorem qow (x:Str) (t:Tok):qgl (.inr x) (.str x t)=true:=by simp [qgl,Value.isStrOf]
theorem qwq (a b:Int):decide ((Sum.inl a:Key)=Sum.inl b)=(a==b):=by
 by_cases e:a=b
 · subst e;simp
 · have h:¬ (Sum.inl a:Key)=Sum.inl b:=fun q=>e (Sum.inl.inj q)
   rw[decide_eq_false h]
   exact(beq_eq_false_iff_ne.mpr e).symm
theorem qqi (a b:Str):decide ((Sum.inr a:Key)=Sum.inr b)=decide (a=b):=by
 by_cases e:a=b
 · subst e;simp
 · have h:¬ (Sum.inr a:Key)=Sum.inr b:=fun q=>e (Sum.inr.inj q)
   rw[decide_eq_false h,decide_eq_false e]
theorem qwr (a:Int) (b:Str):decide ((Sum.inl a:Key)=Sum.inr b)=false:=decide_eq_false (fun q=>nomatch q)
theorem qws (a:Str) (b:Int):decide ((Sum.inr a:Key)=Sum.inl b)=false:=decide_eq_false (fun q=>nomatch q)
noncomputable def qm (prog:Program) (w:World):PySem.KeyKind prog w Key where
 is:=qgl
 hash:=q37 w
 inj :=fun v a b ha hb=>by
   rcases qy ha with ⟨i,t,rfl,rfl⟩ | ⟨x,t,rfl,rfl⟩
   · rcases qy hb with ⟨j,u,rfl,e⟩ | ⟨y,u,rfl,e⟩
     · injection e with e1 _;rw[e1]
     · exact nomatch e
   · rcases qy hb with ⟨j,u,rfl,e⟩ | ⟨y,u,rfl,e⟩
     · exact nomatch e
     · injection e with e1 _;rw[e1]
 byValue:=fun k v h=>by
   rcases qy h with ⟨i,t,rfl,rfl⟩ | ⟨x,t,rfl,rfl⟩ <;> rfl
 pyHash:=fun hv h=>by
   rcases qy hv with ⟨i,t,rfl,rfl⟩ | ⟨x,t,rfl,rfl⟩
   · exact wpAny_pyHash_int h
   · exact wpAny_pyHash_str h
 eqBool:=fun hu hv h=>by
   rcases qy hu with ⟨i,t,rfl,rfl⟩ | ⟨x,t,rfl,rfl⟩
   · rcases qy hv with ⟨j,u,rfl,rfl⟩ | ⟨y,u,rfl,rfl⟩
     · rw[qwq]at h;exact wpAny_eqBool_int h
     · rw[qwr]at h;exact SeqAt.EqAt.int_str i t y u _ _ _ _ h
   · rcases qy hv with ⟨j,u,rfl,rfl⟩ | ⟨y,u,rfl,rfl⟩
     · rw[qws]at h;exact SeqAt.EqAt.str_int x t j u _ _ _ _ h
     · rw[qqi]at h;exact wpAny_eqBool_str h
 «strs»:=fun k x t v h=>by
   rcases qy h with ⟨i,u,rfl,e⟩ | ⟨y,u,rfl,e⟩
   · exact nomatch e
   · injection e with e1 _
     subst e1
     cases v <;> rfl
theorem qmf (prog:Program) (w:World) (k:Key) (v:Value):(qm prog w).is k v=qgl k v:=rfl
theorem qku (prog:Program) (w:World) (i:Int) (t:Tok):(qm prog w).is (.inl i) (.int i t)=true:=qov i t
theorem qkv (prog:Program) (w:World) (x:Str) (t:Tok):(qm prog w).is (.inr x) (.str x t)=true:=qow x t
inductive V where
 | non | bl (b:Bool) | int (i:Int) | str (x:Str) | byt (b:Array UInt8) | flt (b:UInt64) | ref (a:Addr) | ty (n:String)
 deriving DecidableEq
noncomputable def RelV:V→Value→Prop
 | .non,u=>u=Value.none
 | .bl b,u=>u=Value.bool b
 | .int i,u=>∃ t,u=Value.int i t
 | .str x,u=>∃ t,u=Value.str x t
 | .byt b,u=>∃ t,u=Value.bytes b t
 | .flt b,u=>∃ t,u=Value.float b t
 | .ref a,u=>u=Value.ref a
 | .ty n,u=>u=Value.type n
noncomputable abbrev Vals:List V→List Value→Prop:=Paired RelV
theorem Vals.length {xs:List V} {us:List Value} (r:Vals xs us):xs.length=us.length:=Paired.length r
theorem Vals.get:∀ {xs:List V} {us:List Value} {i:Nat} {x:V},Vals xs us→xs[i]? =some x→∃ u,us[i]? =some u∧RelV x u
 | _,_,_,_,.nil,e=>by simp at e
 | _,_,0,_,.cons r _,e=>by simp at e;subst e;exact⟨_,rfl,r⟩
 | _,_,i+1,x,.cons _ t,e=>by
   obtain ⟨u,h1,h2⟩:=Vals.get (i:=i) (x:=x) t (by simpa using e)
   exact⟨u,by simpa using h1,h2⟩
theorem Vals.set {x:V} {u:Value} (r:RelV x u):∀ {xs:List V} {us:List Value} (i:Nat),Vals xs us→Vals (xs.set i x) (us.set i u)
 | _,_,_,.nil=>.nil
 | _,_,0,.cons _ t=>.cons r t
 | _,_,i+1,.cons q t=>.cons q (Vals.set r i t)
theorem Vals.append:∀ {xs ys:List V} {us ws:List Value},Vals xs us→Vals ys ws→Vals (xs++ys) (us++ws)
 | _,_,_,_,.nil,s=>s
 | _,_,_,_,.cons r t,s=>.cons r (Vals.append t s)
theorem Vals.take:∀ {xs:List V} {us:List Value} (n:Nat),Vals xs us→Vals (xs.take n) (us.take n)
 | _,_,0,_=>.nil
 | _,_,_+1,.nil=>.nil
 | _,_,n+1,.cons r t=>.cons r (Vals.take n t)
theorem Vals.drop:∀ {xs:List V} {us:List Value} (n:Nat),Vals xs us→Vals (xs.drop n) (us.drop n)
 | _,_,0,r=>r
 | _,_,_+1,.nil=>.nil
 | _,_,n+1,.cons _ t=>Vals.drop n t
noncomputable def qgm:Option V→Option Value→Prop
 | some v,some u=>RelV v u
 | none,none=>True
 | _,_=>False
noncomputable def KV {κ:Type}:List (κ × V)→List (κ × Value)→Prop:=Paired fun (p:κ × V) (q:κ × Value)=>p.1=q.1∧RelV p.2 q.2
noncomputable def kV:Key→V
 | .inl i=>.int i
 | .inr x=>.str x
inductive HO where
 /-- a list -/
 | lst (xs:List V)
 /-- a tuple (never changes) -/
 | tup (xs:List V)
 /-- a dict whose keys are ints and texts;one whose keys are tuples of ints and texts (the empty one is both) -/
 | dK (kvs:List (Key × V)) | dT (kvs:List (List Key × V))
 /-- a set of ints: its members,its size -/
 | set (S:Int→Bool) (n:Nat)
 /-- an instance of the class at C,its dict at dx,its attributes -/
 | ins (C dx:Addr) (fs:List (Str × V))
 /-- the dict of the instance at x -/
 | own (x:Addr)
 /-- the dict of an exception -/
 | xd (fs:List (Str × V))
 /-- a bound method,f of x -/
 | met (f x:Addr)
 /-- a range object lo,lo+1,.. below hi -/
 | rng (lo hi:Int)
 /-- a thing that is known to the object (the script;a dict while a loop walks it): read,never written while it is so -/
 | frz (o:Obj) (u:HO)
 /-- a code object's table -/
 | tbl (ps:Array Value)
 /-- any other thing,by what is true of its one object (a def of one's own: SetO a S n:=HO.ext fun h=>..) -/
 | ext (φ:Heap→Prop)
noncomputable abbrev Hp:=Addr→Option HO
noncomputable def upd (H:Hp) (a:Addr) (o:HO):Hp:=fun b=>if b=a then some o else H b
theorem qg {H:Hp} {a:Addr} {o:HO}:upd H a o a=some o:=by unfold upd;rw[if_pos rfl]
theorem qc {H:Hp} {a b:Addr} {o:HO} (h:b ≠ a):upd H a o b=H b:=by unfold upd;rw[if_neg h]
theorem qta {H:Hp} {a:Addr} {o u:HO}:upd (upd H a o) a u=upd H a u:=by
 funext b;unfold upd;split <;> rfl
theorem q02 {H:Hp} {a b:Addr} {o u:HO} (h:H a=some o) (h':H b=some u) (d:o ≠ u):a ≠ b:=by
 intro e;subst e;rw[h]at h';exact d (Option.some.inj h')
theorem qu {H:Hp} {a b:Addr} {o:HO} (h:H a=some o) (h':H b=none):a ≠ b:=by
 intro e;subst e;rw[h]at h';cases h'
section
variable (P:Program) (w:World)
noncomputable def qw (H:Hp) (h:Heap) (a:Addr):HO→Prop
 | .lst xs=>xs.length≤sizeLine∧∃ (its:List Value) (n:Nat),Vals xs its∧h.get? a=some { cls:=.type "list",data:=.seq its.toArray n }
 | .tup xs=>xs.length≤sizeLine∧∃ its:List Value,Vals xs its∧IsTup h a its.toArray
 | .dK kvs=>kvs.length≤sizeLine∧(a==sysModules)=false∧∃ vs,KV kvs vs∧h.DictOf (qm P w) a vs
 | .dT kvs=>kvs.length≤sizeLine∧(a==sysModules)=false∧∃ xs:List (List Key × Addr × Value),
     Paired (fun (p:List Key × V) (q:List Key × Addr × Value)=>p.1=q.1∧H q.2.1=some (.tup (p.1.map kV))∧RelV p.2 q.2.2) kvs xs ∧
     ∃ o es ep,h.get? a=some o∧o.ExactDict∧o.data=.dict es ep∧es.toList=xs.map (entryOfKey (tupleKind (qm P w)))∧(xs.map (·.1)).Nodup
 | .set S n=>h.SetOf (intKind P w) a S n
 | .ins C dx fs=>H dx=some (.own a)∧fs.length≤1000∧dx ≠ a∧h.get? a=some (PySem.W.instObj C dx) ∧
     ∃ mA,h.Ns1 dx mA∧(∀ f,qgm (fs.lookup f) (mA f))∧PySem.Within mA (fs.map (·.1))
 | .own _=>∃ o,h.get? a=some o
 | .xd fs=>∃ mA,h.Ns1 a mA∧∀ f,qgm (fs.lookup f) (mA f)
 | .rng lo hi=>∃ t u v,h.get? a=some { cls:=.type "range",data:=.fields #[.int lo t,.int hi u,.int 1 v] }
 | .frz o u=>h.get? a=some o∧qw H h a u
 | .tbl ps=>h.get? a=some { cls:=.none,data:=.fields ps }
 | .met f x=>h.get? a=some (PySem.W.methodObj (.ref f) (.ref x))
 | .ext φ=>φ h∧(∃ o,h.get? a=some o)∧∀ h1 h2:Heap,φ h1→(∀ o,h1.get? a=some o→h2.get? a=some o)→φ h2
noncomputable def HOk (H:Hp) (h:Heap):Prop:=∀ a o,H a=some o→qw P w H h a o
end
section
variable {P:Program} {w:World} {H H':Hp} {h h':Heap} {a:Addr} {o:HO}
theorem qw.lt (x:qw P w H h a o):a < h.objs.size:=by
 cases o with
 | lst xs=>obtain ⟨_,_,_,_,e⟩:=x;exact Heap.lt_size e
 | tup xs=>obtain ⟨_,_,_,p⟩:=x;exact p.lt
 | dK kvs=>obtain ⟨_,_,_,_,o,_,_,e,_⟩:=x;exact Heap.lt_size e
 | dT kvs=>obtain ⟨_,_,_,_,o,_,_,e,_⟩:=x;exact Heap.lt_size e
 | set S n=>obtain ⟨o,_,_,_,e,_⟩:=x;exact Heap.lt_size e
 | ins C dx fs=>obtain ⟨_,_,_,e,_⟩:=x;exact Heap.lt_size e
 | own y=>obtain ⟨_,e⟩:=x;exact Heap.lt_size e
 | xd fs=>obtain ⟨_,⟨_,_,_,e,_⟩,_⟩:=x;exact Heap.lt_size e
 | rng lo hi=>obtain ⟨_,_,_,e⟩:=x;exact Heap.lt_size e
 | frz ob u=>obtain ⟨e,_⟩:=x;exact Heap.lt_size e
 | tbl ps=>exact Heap.lt_size (show h.get? a=some _ from x)
 | met f y=>exact Heap.lt_size (show h.get? a=some _ from x)
 | ext φ=>obtain ⟨_,⟨_,e⟩,_⟩:=x;exact Heap.lt_size e
theorem Paired.mapP {α β:Type} {F G:α→β→Prop}:∀ {l₁:List α} {l₂:List β},Paired F l₁ l₂→(∀ a b,F a b→G a b)→Paired G l₁ l₂
 | _,_,.nil,_=>.nil
 | _,_,.cons r t,f=>.cons (f _ _ r) (Paired.mapP t f)
theorem qw.stay (x:qw P w H h a o) (k:∀ b u,(b=a∨H b=some (.own a))→h.get? b=some u→h'.get? b=some u)
   (ho:∀ b,H b=some (.own a)→H' b=some (.own a)) (ht:∀ b xs,H b=some (.tup xs)→H' b=some (.tup xs)):qw P w H' h' a o:=by
 induction o with
 | lst xs=>obtain ⟨z,its,n,r,e⟩:=x;exact⟨z,its,n,r,k _ _ (.inl rfl) e⟩
 | tup xs=>obtain ⟨z,its,r,ob,e,c⟩:=x;exact⟨z,its,r,ob,k _ _ (.inl rfl) e,c⟩
 | dK kvs=>obtain ⟨z,y,vs,r,ob,es,ep,e,c⟩:=x;exact⟨z,y,vs,r,ob,es,ep,k _ _ (.inl rfl) e,c⟩
 | dT kvs =>
   obtain ⟨z,y,xs,r,ob,es,ep,e,c⟩:=x
   exact⟨z,y,xs,Paired.mapP r fun p q z=>⟨z.1,ht _ _ z.2.1,z.2.2⟩,ob,es,ep,k _ _ (.inl rfl) e,c⟩
 | set S n=>obtain ⟨ob,es,ep,t,e,c⟩:=x;exact⟨ob,es,ep,t,k _ _ (.inl rfl) e,c⟩
 | ins C dx fs =>
   obtain ⟨d,z,ne,e,mA,⟨od,es,ep,e2,c⟩,r⟩:=x
   exact⟨ho _ d,z,ne,k _ _ (.inl rfl) e,mA,⟨od,es,ep,k _ _ (.inr d) e2,c⟩,r⟩
 | own y=>obtain ⟨ob,e⟩:=x;exact⟨ob,k _ _ (.inl rfl) e⟩
 | xd fs=>obtain ⟨mA,⟨od,es,ep,e,c⟩,r⟩:=x;exact⟨mA,⟨od,es,ep,k _ _ (.inl rfl) e,c⟩,r⟩
 | rng lo hi=>obtain ⟨t,u,v,e⟩:=x;exact⟨t,u,v,k _ _ (.inl rfl) e⟩
 | frz ob u ih=>obtain ⟨e,q⟩:=x;exact⟨k _ _ (.inl rfl) e,ih q⟩
 | tbl ps =>
   have e:h.get? a=some { cls:=.none,data:=.fields ps }:=x
   show h'.get? a=some { cls:=.none,data:=.fields ps }
   exact k a _ (.inl rfl) e
 | met f y =>
   have e:h.get? a=some (PySem.W.methodObj (.ref f) (.ref y)):=x
   show h'.get? a=some (PySem.W.methodObj (.ref f) (.ref y))
   exact k a _ (.inl rfl) e
 | ext φ=>obtain ⟨p,⟨o,e⟩,st⟩:=x;exact⟨st _ _ p fun o q=>k _ _ (.inl rfl) q,⟨o,k _ _ (.inl rfl) e⟩,st⟩
theorem HOk.lt (x:HOk P w H h) (e:H a=some o):a < h.objs.size:=(x a o e).lt
theorem HOk.fresh (x:HOk P w H h) (e:h.objs.size≤a):H a=none:=by
 cases q:H a with
 | none=>rfl
 | some u=>exact absurd (Nat.lt_of_lt_of_le (x.lt q) e) (Nat.lt_irrefl _)
theorem HOk.kept (x:HOk P w H h) (k:∀ b u,h.get? b=some u→h'.get? b=some u):HOk P w H h':=fun a o e =>
 (x a o e).stay (fun b u _ q=>k b u q) (fun _ q=>q) fun _ _ q=>q
theorem HOk.laid (x:HOk P w H h) (k:∀ b u,h.get? b=some u→h'.get? b=some u) (hp:h.objs.size≤a) (new:qw P w (upd H a o) h' a o):HOk P w (upd H a o) h':=fun b u e=>by
 have hn:=x.fresh hp
 by_cases hb:b=a
 · subst hb;rw[qg]at e;cases e;exact new
 · rw[qc hb]at e
   exact(x b u e).stay (fun c v _ q=>k c v q) (fun c q=>by rw[qc (qu q hn)];exact q) fun c xs q=>by rw[qc (qu q hn)];exact q
end
noncomputable def Rd (H:Hp) (a:Addr) (u:HO):Prop:=H a=some u∨∃ o,H a=some (.frz o u)
theorem Rd.ok {P:Program} {w:World} {H:Hp} {h:Heap} {a:Addr} {u:HO} (r:Rd H a u) (x:HOk P w H h):qw P w H h a u:=by
 rcases r with r | ⟨o,r⟩
 · exact x a u r
 · obtain ⟨_,q⟩:=x a _ r
   exact q
noncomputable def Mut:Option HO→Prop
 | some (.lst _)=>True
 | some (.dK _)=>True
 | some (.dT _)=>True
 | some (.set _ _)=>True
 | some (.ins _ _ _)=>True
 | some (.ext _)=>True
 | _=>False
section
variable {P:Program} {w:World} {H:Hp} {h h':Heap} {x e:Addr} {o':HO}
theorem HOk.write (ok:HOk P w H h) (mu:Mut (H x)) (he:e=x∨H e=some (.own x)) (k:∀ b u,b ≠ e→h.get? b=some u→h'.get? b=some u) (heo:∃ u,h'.get? e=some u)
   (new:qw P w (upd H x o') h' x o'):HOk P w (upd H x o') h':=fun b u q=>by
 have nown:∀ c y,H c=some (.own y)→c ≠ x:=fun c y r z=>by subst z;rw[r]at mu;exact mu
 have ntup:∀ c xs,H c=some (.tup xs)→c ≠ x:=fun c xs r z=>by subst z;rw[r]at mu;exact mu
 by_cases hb:b=x
 · subst hb;rw[qg]at q;cases q;exact new
 · rw [qc hb]at q
   by_cases hbe:b=e
   · have q':H b=some (.own x):=by
       rcases he with z | z
       · exact absurd (hbe.trans z) hb
       · rw[hbe];exact z
     rw[q]at q';cases q'
     obtain ⟨v,hv⟩:=heo
     exact⟨v,by rw[hbe];exact hv⟩
   · refine(ok b u q).stay (fun c v hc r=>k c v ?_ r) (fun c r=>by rw[qc (nown c b r)];exact r) fun c xs r=>by rw[qc (ntup c xs r)];exact r
     rcases hc with rfl | hc
     · exact hbe
     · rintro rfl
       rcases he with z | z
       · exact nown c b hc z
       · rw[hc]at z;cases z;exact hb rfl
end
structure Un (fs ex:List Addr) (H H':Hp) (h h':Heap):Prop where
 keep:∀ b o,h.get? b=some o→H b=none→b ∉ fs→b ∉ ex→h'.get? b=some o
 slot:∀ b o,h.get? b=some o→H b=none→b ∈ fs→b ∉ ex→∃ sl,h'.get? b=some { o with slots:=sl }
 free:∀ b o,h.get? b=some o→H b=none→b ∉ ex→H' b=none
 there:∀ b o,h.get? b=some o→b ∉ ex→∃ o',h'.get? b=some o'
 tups:∀ b xs,H b=some (.tup xs)→H' b=some (.tup xs)
 frzs:∀ b o u,H b=some (.frz o u)→H' b=some (.frz o u)
 tbls:∀ b ps,H b=some (.tbl ps)→∃ more,H' b=some (.tbl (ps++more))
section
variable {fs fs' ex ex':List Addr} {H H1 H2:Hp} {h h1 h2 h':Heap} {a x e:Addr} {o:HO}
theorem Un.any (u:Un fs ex H H1 h h1) {b:Addr} {ob:Obj} (q:h.get? b=some ob) (n:H b=none) (hx:b ∉ ex):∃ sl,h1.get? b=some { ob with slots:=sl }:=by
 by_cases hb:b ∈ fs
 · exact u.slot b ob q n hb hx
 · exact⟨ob.slots,u.keep b ob q n hb hx⟩
theorem Un.kept (k:∀ b u,h.get? b=some u→h'.get? b=some u):Un fs ex H H h h' :=
 ⟨fun b ob q _ _ _=>k b ob q,fun b ob q _ _ _=>⟨ob.slots,k b ob q⟩,fun _ _ _ n _=>n,fun b ob q _=>⟨ob,k b ob q⟩,fun _ _ q=>q,fun _ _ _ q=>q,fun _ ps q=>⟨#[],by rw[q];simp⟩⟩
theorem Un.refl:Un fs ex H H h h:=Un.kept fun _ _ q=>q
theorem Un.laid (k:∀ b u,h.get? b=some u→h'.get? b=some u) (hp:h.objs.size≤a) (hn:H a=none):Un fs ex H (upd H a o) h h' where
 keep:=fun b u q _ _ _=>k b u q
 slot:=fun b u q _ _ _=>⟨u.slots,k b u q⟩
 free:=fun b u q n _=>by rw[qc (Nat.ne_of_lt (Nat.lt_of_lt_of_le (Heap.lt_size q) hp))];exact n
 there:=fun b u q _=>⟨u,k b u q⟩
 tups:=fun b xs q=>by rw[qc (qu q hn)];exact q
 frzs:=fun b u xs q=>by rw[qc (qu q hn)];exact q
 tbls:=fun b ps q=>⟨#[],by rw[qc (qu q hn),q];simp⟩
theorem Un.write (mu:Mut (H x)) (he:e=x∨H e=some (.own x)) (k:∀ b u,b ≠ e→h.get? b=some u→h'.get? b=some u) (heo:∃ u,h'.get? e=some u):Un fs ex H (upd H x o) h h':=by
 have hx:∀ b,H b=none→b ≠ x:=fun b n z=>by subst z;rw[n]at mu;exact mu
 have hb:∀ b,H b=none→b ≠ e:=fun b n z=>by
   subst z
   rcases he with r | r
   · exact hx b n r
   · rw[n]at r;cases r
 have hm:∀ b u,H b=some u→¬ Mut (some u)→b ≠ x:=fun b u q nm z=>by subst z;rw[q]at mu;exact nm mu
 refine⟨fun b u q n _ _=>k b u (hb b n) q,fun b u q n _ _=>⟨u.slots,k b u (hb b n) q⟩,fun b u q n _=>by rw[qc (hx b n)];exact n,fun b u q _=> ?_,
   fun b xs q=>by rw[qc (hm b _ q fun z=>z)];exact q,fun b u xs q=>by rw[qc (hm b _ q fun z=>z)];exact q,fun b ps q=>⟨#[],by rw[qc (hm b _ q fun z=>z),q];simp⟩⟩
 by_cases hbe:b=e
 · subst hbe;exact heo
 · exact⟨u,k b u hbe q⟩
end
noncomputable def trk (h:Heap) (H:Hp):List Addr:=(List.range h.objs.size).filter fun a=>(H a).isSome
noncomputable def qjc (h:Heap) (H:Hp):Heap:=PySem.W.hideAll h (trk h H)
theorem qox (h:Heap) (H:Hp):(qjc h H).objs.size=h.objs.size:=PySem.W.hideAll_size _ _
theorem qqj {h:Heap} {H:Hp} {b:Addr} {o:Obj} (e:h.get? b=some o) (n:H b=none):(qjc h H).get? b=some o :=
 PySem.W.hideAll_get _ e fun hm=>by
   have q:(H b).isSome=true:=(List.mem_filter.mp hm).2
   rw[n]at q;simp at q
theorem qtb {h:Heap} {H:Hp} {b:Addr} {o:Obj} (e:(qjc h H).get? b=some o):h.get? b=some o∧H b=none:=by
 have e':h.get? b=some o:=PySem.W.of_hideAll (trk h H) e
 refine⟨e',?_⟩
 cases q:H b with
 | none=>rfl
 | some x =>
   have hm:b ∈ trk h H:=List.mem_filter.mpr ⟨List.mem_range.mpr (Heap.lt_size e'),by simp [q]⟩
   have z:(qjc h H).get? b=none:=PySem.W.hideAll_none (trk h H) hm
   rw[z]at e;cases e
structure Mod (K:PySem.W.Frag) (mg:Str→Option Value) (base:Heap):Prop where
 kin:K.In base
 glob:base.Ns mainGlobals mg
 blt:∃ mb,base.Ns builtinsNs mb∧∀ x:Str,x ≠ "__name__"→mb x=bootBuiltins x
 nolimit:base.NoLimit
set_option genInjectivity false in
structure Cx where
 prog:Program
 w:World
 K:PySem.W.Frag
 mg:Str→Option Value
 base:Heap
 A:Around
 N:List Str
 s₀:Shared
 H₀:Hp
 env:Env
 outer:List Env
 stack:List Env
 ex:List Addr
 fn:Str→Bool
 calm:Bool
 pn:List (Addr × Obj)
 xe:Value→Shared→Prop
noncomputable def frs (l:List Env):List Addr:=l.filterMap (·.frame)
noncomputable abbrev Cx.fs (X:Cx):List Addr:=frs X.outer
noncomputable def Vis (sc:Scope) (x:Str):Prop:=sc.names.lookup x=some .local∨sc.names.lookup x=some .cell∨sc.names.lookup x=some .free
noncomputable def Loc (sc:Scope) (x:Str):Prop:=sc.names.lookup x=some .local∨sc.names.lookup x=some .cell
noncomputable def Look (env:Env) (h:Heap) (m:Str→Option Value) (x:Str) (u:Value):Prop :=
 (env.kindOf x=some .local∧m x=some u)∨((env.kindOf x=some .cell∨env.kindOf x=some .free)∧∃ c,env.cells.lookup x=some c∧h.IsCell c (some u))
set_option genInjectivity false in
structure Cx.Ok (X:Cx):Prop where
 mod:Mod X.K X.mg X.base
 kind:X.env.scope.kind=.function
 glob:X.env.globals=mainGlobals
 blt:X.env.builtins=builtinsNs
 above:X.s₀.heap.objs.size≤X.env.locals
 inj:∀ x y c,X.env.cells.lookup x=some c→X.env.cells.lookup y=some c→x=y
 has:∀ x,(X.env.kindOf x=some .cell∨X.env.kindOf x=some .free)→∃ c,X.env.cells.lookup x=some c
 cab:∀ x c,X.fn x=true→X.env.cells.lookup x=some c→X.s₀.heap.objs.size≤c
 hd:X.calm=true→X.A.handled=none
 frames:X.A.frames=some X.stack
 stk:X.stack=X.outer∨(X.stack=X.env::X.outer∧X.env.frame=some X.env.locals)
 exf:∀ b ∈ X.ex,b ≠ X.env.locals∧∀ x c,X.env.cells.lookup x=some c→c ≠ b
 bs:∀ b o,X.base.get? b=some o→X.s₀.heap.get? b=some o∧X.H₀ b=none
 bsz:X.base.objs.size≤X.s₀.heap.objs.size
 noex:∀ b o,X.base.get? b=some o→b ∉ X.ex
 exfs:∀ b ∈ X.ex,b ∉ X.fs
 funs:X.s₀.heap.FunFrames X.base X.outer
 frf:∀ b ∈ X.fs,X.H₀ b=none
structure Inv (X:Cx) (pins:List (Addr × Obj)) (σ:List (Option V)) (H:Hp) (s:Shared):Prop where
 ok:X.Ok
 os:s.os=X.s₀.os
 bare:AllBare s.gens
 base:Un X.fs X.ex X.H₀ H X.s₀.heap s.heap
 loc:∃ m,s.heap.Ns X.env.locals m∧∀ (i:Nat) (x:Str) (v:V),X.N[i]? =some x→σ[i]? =some (some v)→Vis X.env.scope x→∃ u,RelV v u∧Look X.env s.heap m x u
 cell:∀ x c,X.env.cells.lookup x=some c→∃ v,s.heap.IsCell c v
 free:H X.env.locals=none
 freeC:∀ x c,X.env.cells.lookup x=some c→H c=none
 pin:∀ p ∈ X.pn++pins,s.heap.get? p.1=some p.2∧H p.1=none∧p.1 ≠ X.env.locals∧p.1 ∉ X.fs∧∀ v,p.2.data ≠ .cell v
 hok:HOk X.prog X.w H s.heap
 len:σ.length=X.N.length
section
variable {X:Cx} {pins:List (Addr × Obj)} {σ:List (Option V)} {H H':Hp} {s:Shared} {h':Heap}
theorem Cx.Ok.nofr (ok:X.Ok) {b:Addr} {o:Obj} (e:X.base.get? b=some o):b ∉ X.fs:=fun hb=>by
 have:=(ok.funs.mem hb).1
 rw[e]at this;cases this
theorem Inv.bs (I:Inv X pins σ H s):∀ b o,X.base.get? b=some o→s.heap.get? b=some o∧H b=none:=fun b o e =>
 ⟨I.base.keep b o (I.ok.bs b o e).1 (I.ok.bs b o e).2 (I.ok.nofr e) (I.ok.noex b o e),I.base.free b o (I.ok.bs b o e).1 (I.ok.bs b o e).2 (I.ok.noex b o e)⟩
theorem Inv.bk (I:Inv X pins σ H s):∀ b o,X.base.get? b=some o→s.heap.get? b=some o:=fun b o e=>(I.bs b o e).1
theorem Inv.mod (I:Inv X pins σ H s):Mod X.K X.mg X.base:=I.ok.mod
theorem Inv.kIn (I:Inv X pins σ H s):X.K.In s.heap:=I.ok.mod.kin.keeps I.bk
theorem Inv.lt (I:Inv X pins σ H s):X.env.locals < s.heap.objs.size:=let ⟨_,hn,_⟩:=I.loc;hn.lt
theorem Inv.sz (I:Inv X pins σ H s):X.s₀.heap.objs.size≤s.heap.objs.size:=Nat.le_trans I.ok.above (Nat.le_of_lt I.lt)
theorem Inv.nofs (I:Inv X pins σ H s) {a:Addr} (h:s.heap.objs.size≤a):a ∉ X.fs:=fun hb=>by
 obtain ⟨_,o,ho,_⟩:=I.ok.funs.mem hb
 exact absurd (Nat.lt_of_lt_of_le (Heap.lt_size ho) (Nat.le_trans I.sz h)) (Nat.lt_irrefl _)
theorem Inv.cne (I:Inv X pins σ H s):∀ x c,X.env.cells.lookup x=some c→c ≠ X.env.locals:=fun x c e z=>by
 obtain ⟨v,o,ho,hd⟩:=I.cell x c e
 obtain ⟨m,⟨o',es,ep,ho',hd',_⟩,_⟩:=I.loc
 rw[z,ho']at ho;cases ho;rw[hd']at hd;cases hd
theorem Inv.funs (I:Inv X pins σ H s):s.heap.FunFrames X.base X.outer:=by
 have all:∀ (l:List Env),(∀ b ∈ frs l,b ∈ X.fs)→X.s₀.heap.FunFrames X.base l→s.heap.FunFrames X.base l:=by
   intro l
   induction l with
   | nil=>intro _ _;trivial
   | cons env r ih =>
     intro hs hl
     obtain ⟨hk,⟨L,o,hf,hn,ho,hd⟩,hr⟩:=hl
     have hL:L ∈ X.fs:=hs L (by unfold frs;rw[List.filterMap_cons,hf];exact List.mem_cons_self)
     obtain ⟨sl,e⟩:=I.base.slot L o ho (I.ok.frf L hL) hL fun z=>I.ok.exfs L z hL
     exact⟨hk,⟨L,_,hf,hn,e,hd⟩,ih (fun b hb=>hs b (by unfold frs;rw[List.filterMap_cons,hf];exact List.mem_cons_of_mem _ hb)) hr⟩
 exact all X.outer (fun _ hb=>hb) I.ok.funs
theorem Inv.stack (I:Inv X pins σ H s):s.heap.FunFrames X.base X.stack:=by
 rcases I.ok.stk with e | ⟨e,hf⟩
 · rw[e];exact I.funs
 · rw[e]
   obtain ⟨m,hn,_⟩:=I.loc
   refine .cons (by rw[I.ok.kind];decide) hf hn ?_ I.funs
   exact Heap.get?_none_of_le (Nat.le_trans I.ok.bsz I.ok.above)
theorem Inv.stkSub (I:Inv X pins σ H s):∀ b ∈ frs X.stack,b ∈ X.env.locals::X.fs:=fun b hb=>by
 rcases I.ok.stk with e | ⟨e,hf⟩
 · rw[e]at hb;exact List.mem_cons_of_mem _ hb
 · rw[e]at hb
   unfold frs at hb
   rw[List.filterMap_cons,hf]at hb
   exact hb
theorem Inv.stkFree (I:Inv X pins σ H s):∀ b ∈ frs X.stack,H b=none:=fun b hb=>by
 rcases List.mem_cons.mp (I.stkSub b hb)with e | hb
 · rw[e];exact I.free
 · obtain ⟨_,o,ho,_⟩:=I.ok.funs.mem hb
   exact I.base.free b o ho (I.ok.frf b hb) fun z=>I.ok.exfs b z hb
theorem Inv.step {g':Array GenState} {t':Nat} {d':Drawn} {ch:List Addr} (I:Inv X pins σ H s)
   (hch:∀ b ∈ ch,(b ∈ X.ex∨X.s₀.heap.objs.size≤b)∧b ≠ X.env.locals∧(∀ x c,X.env.cells.lookup x=some c→c ≠ b)∧∀ p ∈ X.pn++pins,p.1 ≠ b)
   (keep:∀ b o,b ≠ X.env.locals→b ∉ X.fs→b ∉ ch→s.heap.get? b=some o→H b=none→h'.get? b=some o)
   (slot:∀ b o,b ≠ X.env.locals→b ∈ X.fs→b ∉ ch→s.heap.get? b=some o→H b=none→∃ sl,h'.get? b=some { o with slots:=sl }) (free:∀ b o,b ∉ ch→s.heap.get? b=some o→H b=none→H' b=none)
   (there:∀ b o,b ∉ ch→s.heap.get? b=some o→∃ o',h'.get? b=some o')
   (tups:∀ b xs,H b=some (.tup xs)→H' b=some (.tup xs)) (frzs:∀ b o u,H b=some (.frz o u)→H' b=some (.frz o u)) (tbls:∀ b ps,H b=some (.tbl ps)→∃ more,H' b=some (.tbl (ps++more)))
   (ns:∀ m,s.heap.Ns X.env.locals m→h'.Ns X.env.locals m) (hok:HOk X.prog X.w H' h') (hg:AllBare g') :
   Inv X pins σ H' { s with heap:=h',gens:=g',drawn:=d',toks:=t' }:=by
 have neL:∀ b o,X.s₀.heap.get? b=some o→b ≠ X.env.locals:=fun b o e=>Nat.ne_of_lt (Nat.lt_of_lt_of_le (Heap.lt_size e) I.ok.above)
 have neC:∀ b o,X.s₀.heap.get? b=some o→b ∉ X.ex→b ∉ ch:=fun b o e hx hb=>by
   rcases (hch b hb).1 with z | z
   · exact hx z
   · exact absurd (Nat.lt_of_lt_of_le (Heap.lt_size e) z) (Nat.lt_irrefl _)
 have cellK:∀ x c,X.env.cells.lookup x=some c→∀ v,s.heap.IsCell c v→h'.IsCell c v:=fun x c e v ⟨o,ho,hd⟩=>by
   have nch:c ∉ ch:=fun z=>(hch c z).2.2.1 x c e rfl
   by_cases hc:c ∈ X.fs
   · obtain ⟨sl,q⟩:=slot c o (I.cne x c e) hc nch ho (I.freeC x c e)
     exact⟨_,q,hd⟩
   · exact⟨o,keep c o (I.cne x c e) hc nch ho (I.freeC x c e),hd⟩
 refine⟨I.ok,I.os,hg,⟨fun b o e n hb hx=> ?_,fun b o e n hb hx=> ?_,fun b o e n hx=> ?_,fun b o e hx=> ?_,fun b xs e=>tups b xs (I.base.tups b xs e),fun b o xs e=>frzs b o xs (I.base.frzs b o xs e),fun b ps e=> ?_⟩,?_,fun x c e=> ?_,?_,fun x c e=> ?_,fun p hp=> ?_,hok,I.len⟩
 · exact keep b o (neL b o e) hb (neC b o e hx) (I.base.keep b o e n hb hx) (I.base.free b o e n hx)
 · obtain ⟨sl,e1⟩:=I.base.slot b o e n hb hx
   obtain ⟨sl',e2⟩:=slot b _ (neL b o e) hb (neC b o e hx) e1 (I.base.free b o e n hx)
   exact⟨sl',e2⟩
 · obtain ⟨o',e1⟩:=I.base.there b o e hx
   exact free b o' (neC b o e hx) e1 (I.base.free b o e n hx)
 · obtain ⟨o',e1⟩:=I.base.there b o e hx
   exact there b o' (neC b o e hx) e1
 · obtain ⟨m1,e1⟩:=I.base.tbls b ps e
   obtain ⟨m2,e2⟩:=tbls b _ e1
   exact⟨m1++m2,by rw[e2,Array.append_assoc]⟩
 · obtain ⟨m,hn,hl⟩:=I.loc
   refine⟨m,ns m hn,fun i x v e1 e2 e3=> ?_⟩
   obtain ⟨u,r,l⟩:=hl i x v e1 e2 e3
   refine⟨u,r,?_⟩
   rcases l with l | ⟨k,c,e,z⟩
   · exact .inl l
   · exact .inr ⟨k,c,e,cellK x c e _ z⟩
 · obtain ⟨v,z⟩:=I.cell x c e
   exact⟨v,cellK x c e v z⟩
 · obtain ⟨m,⟨o,_,_,ho,_⟩,_⟩:=I.loc
   exact free _ o (fun z=>(hch _ z).2.1 rfl) ho I.free
 · obtain ⟨v,o,ho,hd⟩:=I.cell x c e
   exact free c o (fun z=>(hch c z).2.2.1 x c e rfl) ho (I.freeC x c e)
 · obtain ⟨e,n,ne,nf,d⟩:=I.pin p hp
   have nch:p.1 ∉ ch:=fun z=>(hch p.1 z).2.2.2 p hp rfl
   exact⟨keep p.1 p.2 ne nf nch e n,free p.1 p.2 nch e n,ne,nf,d⟩
theorem Inv.un {t':Nat} (I:Inv X pins σ H s) (u:Un X.fs [] H H' s.heap h') (hok:HOk X.prog X.w H' h'):Inv X pins σ H' { s with heap:=h',toks:=t' }:=by
 obtain ⟨m,⟨o,es,ep,ho,r⟩,_⟩:=id I.loc
 obtain ⟨sl,hL⟩:=u.any ho I.free (by simp)
 exact I.step (g':=s.gens) (d':=s.drawn) (ch:=[]) (fun _ z=>nomatch z) (fun b o _ hb _ e n=>u.keep b o e n hb (by simp)) (fun b o _ hb _ e n=>u.slot b o e n hb (by simp)) (fun b o _ e n=>u.free b o e n (by simp)) (fun b o _ e=>u.there b o e (by simp)) u.tups u.frzs u.tbls (fun m' hm=>by
   obtain ⟨o',es',ep',ho',r'⟩:=hm
   rw[ho]at ho';cases ho'
   exact⟨_,es',ep',hL,r'⟩) hok I.bare
theorem Inv.call {g':Array GenState} {t':Nat} {d':Drawn} {ch:List Addr} (I:Inv X pins σ H s) (u:Un (frs X.stack) ch H H' s.heap h') (hok:HOk X.prog X.w H' h') (hg:AllBare g')
   (hch:∀ b ∈ ch,(b ∈ X.ex∨X.s₀.heap.objs.size≤b)∧b ≠ X.env.locals∧(∀ x c,X.env.cells.lookup x=some c→c ≠ b)∧∀ p ∈ X.pn++pins,p.1 ≠ b) :
   Inv X pins σ H' { s with heap:=h',gens:=g',drawn:=d',toks:=t' }:=by
 obtain ⟨m,⟨o,es,ep,ho,r⟩,_⟩:=id I.loc
 obtain ⟨sl,hL⟩:=u.any ho I.free fun z=>(hch _ z).2.1 rfl
 exact I.step (ch:=ch) hch (fun b o hL hb hc e n=>u.keep b o e n (fun z=>(List.mem_cons.mp (I.stkSub b z)).elim hL hb) hc) (fun b o _ _ hc e n=>u.any e n hc) (fun b o hc e n=>u.free b o e n hc) (fun b o hc e=>u.there b o e hc) u.tups u.frzs u.tbls (fun m' hm=>by
   obtain ⟨o',es',ep',ho',r'⟩:=hm
   rw[ho]at ho';cases ho'
   exact⟨_,es',ep',hL,r'⟩) hok hg
theorem Inv.turned {t':Nat} {it:Addr} (I:Inv X pins σ H s) (k:∀ b o,b ≠ it→s.heap.get? b=some o→h'.get? b=some o) (hn:H it=none) (hL:it ≠ X.env.locals)
   (h1:it ∈ X.ex∨X.s₀.heap.objs.size≤it) (h2:∀ x c,X.env.cells.lookup x=some c→c ≠ it) (h3:∀ p ∈ X.pn++pins,p.1 ≠ it):Inv X pins σ H { s with heap:=h',toks:=t' }:=by
 have nit:∀ b u,H b=some u→b ≠ it:=fun b u e z=>by rw[z,hn]at e;cases e
 refine I.step (g':=s.gens) (d':=s.drawn) (ch:=[it]) (fun b hb=> ?_) (fun b o _ _ hc e _=>k b o (fun z=>hc (by simp [z])) e) (fun b o _ _ hc e _=>⟨o.slots,k b o (fun z=>hc (by simp [z])) e⟩) (fun _ _ _ _ n=>n)
   (fun b o hc e=>⟨o,k b o (fun z=>hc (by simp [z])) e⟩) (fun _ _ e=>e) (fun _ _ _ e=>e) (fun b ps e=>⟨#[],by rw[e];simp⟩) (fun m hm=> ?_) (fun b u e=> ?_) I.bare
 · have e:b=it:=by simpa using hb
   subst e
   exact⟨h1,hL,h2,h3⟩
 · obtain ⟨o,es,ep,ho,r⟩:=hm
   exact⟨o,es,ep,k _ o (Ne.symm hL) ho,r⟩
 · refine(I.hok b u e).stay (fun c v hc q=>k c v ?_ q) (fun _ q=>q) fun _ _ q=>q
   rcases hc with z | z
   · rw[z];exact nit b u e
   · exact nit c _ z
theorem Inv.tok (I:Inv X pins σ H s) (t:Nat):Inv X pins σ H { s with toks:=t }:=I.un (h':=s.heap) (t':=t) Un.refl I.hok
theorem Inv.kept {t':Nat} (I:Inv X pins σ H s) (k:∀ b u,s.heap.get? b=some u→h'.get? b=some u):Inv X pins σ H { s with heap:=h',toks:=t' }:=I.un (Un.kept k) (I.hok.kept k)
theorem Inv.laid {a:Addr} {o:HO} {t':Nat} (I:Inv X pins σ H s) (k:∀ b u,s.heap.get? b=some u→h'.get? b=some u) (hp:s.heap.objs.size≤a) (new:qw X.prog X.w (upd H a o) h' a o) :
   Inv X pins σ (upd H a o) { s with heap:=h',toks:=t' }:=I.un (Un.laid k hp (I.hok.fresh hp)) (I.hok.laid k hp new)
theorem Inv.write {x e:Addr} {o:HO} {t':Nat} (I:Inv X pins σ H s) (mu:Mut (H x)) (he:e=x∨H e=some (.own x)) (k:∀ b u,b ≠ e→s.heap.get? b=some u→h'.get? b=some u) (heo:∃ u,h'.get? e=some u)
   (new:qw X.prog X.w (upd H x o) h' x o):Inv X pins σ (upd H x o) { s with heap:=h',toks:=t' }:=I.un (Un.write mu he k heo) (I.hok.write mu he k heo new)
theorem Inv.weak {σ':List (Option V)} (I:Inv X pins σ H s) (hl:σ'.length=σ.length) (w:∀ (i:Nat) v,σ'[i]? =some (some v)→σ[i]? =some (some v)):Inv X pins σ' H s :=
 ⟨I.ok,I.os,I.bare,I.base,let ⟨m,hn,hl'⟩:=I.loc;⟨m,hn,fun i x v e1 e2 e3=>hl' i x v e1 (w i v e2) e3⟩,I.cell,I.free,I.freeC,I.pin,I.hok,hl.trans I.len⟩
theorem Inv.pins_of {pins':List (Addr × Obj)} (I:Inv X pins σ H s) (h:∀ p ∈ pins',s.heap.get? p.1=some p.2∧H p.1=none∧p.1 ≠ X.env.locals∧p.1 ∉ X.fs∧∀ v,p.2.data ≠ .cell v):Inv X pins' σ H s :=
 ⟨I.ok,I.os,I.bare,I.base,I.loc,I.cell,I.free,I.freeC,fun p hp=>(List.mem_append.mp hp).elim (fun z=>I.pin p (List.mem_append_left _ z)) (h p),I.hok,I.len⟩
theorem qgn {N:List Str} (hN:N.Nodup) {i j:Nat} {x:Str} (a:N[i]? =some x) (b:N[j]? =some x):i=j:=by
 obtain ⟨h1,e1⟩:=List.getElem?_eq_some_iff.mp a
 obtain ⟨h2,e2⟩:=List.getElem?_eq_some_iff.mp b
 exact(List.getElem_inj hN).mp (e1.trans e2.symm)
theorem qew {M:Model} {A:Around} {E:Value→Shared→Prop} {i:Nat} {x:Str} {v:V} {u:Value} {Q:Unit→Shared→Prop} (I:Inv X pins σ H s) (hN:X.N.Nodup) (hi:X.N[i]? =some x) (hx:Loc X.env.scope x) (r:RelV v u)
   (h:∀ s',Inv X pins (σ.set i (some v)) H s'→(∃ a,Heap.SameBut a s.heap s'.heap∧(a=X.env.locals∨X.env.cells.lookup x=some a))→Q () s') (hf:X.fn x=true∨X.env.scope.names.lookup x=some .local:=by first | exact .inl rfl | exact .inr rfl | assumption):wpAny M A (storeName X.env x u) Q E s:=by
 obtain ⟨m,hn,hl⟩:=id I.loc
 have hcls:(X.env.scope.kind==.class || (X.env.scope.kind==.module && X.env.locals != X.env.globals))=false:=by rw[I.ok.kind];rfl
 have hiσ:i < σ.length:=by rw[I.len];exact(List.getElem?_eq_some_iff.mp hi).1
 have cne:=I.cne
 have tracked:∀ {a:Addr} {h':Heap},(∃ o,s.heap.get? a=some o∧H a=none)→Heap.SameBut a s.heap h'→HOk X.prog X.w H h':=fun {a h'} ha hs b ob e=>by
   obtain ⟨_,_,hfree⟩:=ha
   refine(I.hok b ob e).stay (fun c w' hc q=>(hs.2 c ?_).trans q) (fun _ q=>q) fun _ _ q=>q
   rintro rfl
   rcases hc with rfl | hc
   · rw[hfree]at e;cases e
   · rw[hfree]at hc;cases hc
 rcases hx with hk | hk
 · refine wpAny_storeName_local hk hn (fun h' hn' hs=> ?_) hcls
   obtain ⟨oL,_,_,hoL,_⟩:=id hn
   refine h _ ⟨I.ok,I.os,I.bare,⟨fun b o e n hb hx=> ?_,fun b o e n hb hx=> ?_,I.base.free,fun b o e hx=> ?_,I.base.tups,I.base.frzs,I.base.tbls⟩,⟨_,hn',fun j y v' e1 e2 e3=> ?_⟩,fun y c e=> ?_,I.free,I.freeC,fun p hp=> ?_,tracked ⟨oL,hoL,I.free⟩ hs,by simpa using I.len⟩ ⟨_,hs,.inl rfl⟩
   · exact(hs.2 b (Nat.ne_of_lt (Nat.lt_of_lt_of_le (Heap.lt_size e) I.ok.above))).trans (I.base.keep b o e n hb hx)
   · obtain ⟨sl,e1⟩:=I.base.slot b o e n hb hx
     exact⟨sl,(hs.2 b (Nat.ne_of_lt (Nat.lt_of_lt_of_le (Heap.lt_size e) I.ok.above))).trans e1⟩
   · obtain ⟨o',e1⟩:=I.base.there b o e hx
     exact⟨o',(hs.2 b (Nat.ne_of_lt (Nat.lt_of_lt_of_le (Heap.lt_size e) I.ok.above))).trans e1⟩
   · by_cases hj:j=i
     · subst hj
       rw[hi]at e1;cases e1
       rw[List.getElem?_set_self hiσ]at e2
       cases e2
       exact⟨u,r,.inl ⟨hk,by simp⟩⟩
     · rw[List.getElem?_set_ne (Ne.symm hj)]at e2
       obtain ⟨u',r',q⟩:=hl j y v' e1 e2 e3
       refine⟨u',r',?_⟩
       rcases q with ⟨k,e⟩ | ⟨k,c,e,z⟩
       · refine .inl ⟨k,?_⟩
         have:y ≠ x:=fun e=>hj (qgn hN e1 (e ▸ hi))
         simp [this,e]
       · exact .inr ⟨k,c,e,z.sameBut hs (cne y c e)⟩
   · obtain ⟨w',z⟩:=I.cell y c e
     exact⟨w',z.sameBut hs (cne y c e)⟩
   · obtain ⟨e,n,ne,nf,d⟩:=I.pin p hp
     exact⟨(hs.2 p.1 ne).trans e,n,ne,nf,d⟩
 · have hfn:X.fn x=true:=by
     rcases hf with z | z
     · exact z
     · rw[z]at hk;cases hk
   obtain ⟨c,hc⟩:=I.ok.has x (.inl hk)
   obtain ⟨w',z⟩:=I.cell x c hc
   refine wpAny_storeName_cell I.ok.kind hk hc z (fun h' hc' hs=> ?_)
   obtain ⟨oc,hoc,hocd⟩:=id z
   refine h { s with heap:=h' } ⟨I.ok,I.os,I.bare,⟨fun b o e n hb hx=> ?_,fun b o e n hb hx=> ?_,I.base.free,fun b o e hx=> ?_,I.base.tups,I.base.frzs,I.base.tbls⟩,⟨m,hn.sameBut hs (Ne.symm (cne x c hc)),fun j y v' e1 e2 e3=> ?_⟩,fun y c' e=> ?_,I.free,I.freeC,fun p hp=> ?_,tracked ⟨oc,hoc,I.freeC x c hc⟩ hs,by simpa using I.len⟩ ⟨c,hs,.inr hc⟩
   · exact(hs.2 b (Nat.ne_of_lt (Nat.lt_of_lt_of_le (Heap.lt_size e) (I.ok.cab x c hfn hc)))).trans (I.base.keep b o e n hb hx)
   · obtain ⟨sl,e1⟩:=I.base.slot b o e n hb hx
     exact⟨sl,(hs.2 b (Nat.ne_of_lt (Nat.lt_of_lt_of_le (Heap.lt_size e) (I.ok.cab x c hfn hc)))).trans e1⟩
   · obtain ⟨o',e1⟩:=I.base.there b o e hx
     exact⟨o',(hs.2 b (Nat.ne_of_lt (Nat.lt_of_lt_of_le (Heap.lt_size e) (I.ok.cab x c hfn hc)))).trans e1⟩
   · by_cases hj:j=i
     · subst hj
       rw[hi]at e1;cases e1
       rw[List.getElem?_set_self hiσ]at e2
       cases e2
       exact⟨u,r,.inr ⟨.inl hk,c,hc,hc'⟩⟩
     · rw[List.getElem?_set_ne (Ne.symm hj)]at e2
       obtain ⟨u',r',q⟩:=hl j y v' e1 e2 e3
       refine⟨u',r',?_⟩
       rcases q with q | ⟨k,c',e,z'⟩
       · exact .inl q
       · refine .inr ⟨k,c',e,z'.sameBut hs ?_⟩
         rintro rfl
         exact hj (qgn hN e1 (I.ok.inj _ _ _ e hc ▸ hi))
   · by_cases hcc:c'=c
     · subst hcc;exact⟨_,hc'⟩
     · obtain ⟨w2,z2⟩:=I.cell y c' e
       exact⟨w2,z2.sameBut hs hcc⟩
   · obtain ⟨e,n,ne,nf,d⟩:=I.pin p hp
     refine⟨(hs.2 p.1 ?_).trans e,n,ne,nf,d⟩
     intro q
     rw[q,hoc]at e
     have q':oc=p.2:=Option.some.inj e
     exact d w' (by rw[← q'];exact hocd)
theorem qcd {M:Model} {A:Around} {E:Value→Shared→Prop} {i:Nat} {x:Str} {v:V} {u:Value} {Q:Unit→Shared→Prop} (I:Inv X pins σ H s) (hN:X.N.Nodup) (hi:X.N[i]? =some x) (hx:Loc X.env.scope x) (r:RelV v u)
   (h:∀ s',Inv X pins (σ.set i (some v)) H s'→Q () s') (hf:X.fn x=true∨X.env.scope.names.lookup x=some .local:=by first | exact .inl rfl | exact .inr rfl | assumption):wpAny M A (storeName X.env x u) Q E s :=
 qew I hN hi hx r (fun s' I' _=>h s' I') hf
theorem Inv.call' {s':Shared} {ch:List Addr} (I:Inv X pins σ H s) (ho:s'.os=s.os) (u:Un (frs X.stack) ch H H' s.heap s'.heap) (hok:HOk X.prog X.w H' s'.heap) (hg:AllBare s'.gens)
   (hch:∀ b ∈ ch,(b ∈ X.ex∨X.s₀.heap.objs.size≤b)∧b ≠ X.env.locals∧(∀ x c,X.env.cells.lookup x=some c→c ≠ b)∧∀ p ∈ X.pn++pins,p.1 ≠ b):Inv X pins σ H' s':=by
 obtain ⟨h',g',d',t',o'⟩:=s'
 have e:o'=s.os:=ho
 subst e
 exact I.call (g':=g') (t':=t') (d':=d') u hok hg hch
end
noncomputable abbrev XK:=Value→Option Addr→Hp→Prop
noncomputable abbrev St:=List (Option V)
noncomputable abbrev VK:=V→Hp→Prop
noncomputable abbrev TE:=St→Hp→VK→Prop
noncomputable abbrev TT:=St→Hp→(Bool→Hp→Prop)→Prop
noncomputable abbrev TA:=St→Hp→(List V→Hp→Prop)→Prop
set_option genInjectivity false in
structure Ends where
 nx:St→Hp→Prop
 rt:VK
 bk:St→Hp→Prop:=fun _ _=>False
 ct:St→Hp→Prop:=fun _ _=>False
noncomputable abbrev TS:=Ends→St→Hp→Prop
noncomputable def EP (X:Cx) (pins:List (Addr × Obj)) (σ:St) (Q:VK) (u:Value) (s':Shared):Prop:=∃ v H',Inv X pins σ H' s'∧RelV v u∧Q v H'
noncomputable def TP (X:Cx) (pins:List (Addr × Obj)) (σ:St) (Q:Bool→Hp→Prop) (b:Bool) (s':Shared):Prop:=∃ H',Inv X pins σ H' s'∧Q b H'
noncomputable def AP (X:Cx) (pins:List (Addr × Obj)) (σ:St) (Q:List V→Hp→Prop) (us:List Value) (s':Shared):Prop:=∃ vs H',Inv X pins σ H' s'∧Vals vs us∧Q vs H'
noncomputable def SP (X:Cx) (pins:List (Addr × Obj)) (D:Ends) (f:Flow) (s':Shared):Prop :=
 match f with
 | .next=>∃ σ' H',Inv X pins σ' H' s'∧D.nx σ' H'
 | .brk=>∃ σ' H',Inv X pins σ' H' s'∧D.bk σ' H'
 | .cont=>∃ σ' H',Inv X pins σ' H' s'∧D.ct σ' H'
 | .ret u=>∃ v σ' H',Inv X pins σ' H' s'∧RelV v u∧D.rt v H'
noncomputable def PE (X:Cx) (e:Expr) (t:TE):Prop :=
 ∀ (pins:List (Addr × Obj)) (s:Shared) (σ:St) (H:Hp) (Q:VK),Inv X pins σ H s→t σ H Q→wpAny (model X.prog X.w) X.A (eval e X.env) (EP X pins σ Q) X.xe s
noncomputable def PT (X:Cx) (e:Expr) (t:TT):Prop :=
 ∀ (pins:List (Addr × Obj)) (s:Shared) (σ:St) (H:Hp) (Q:Bool→Hp→Prop),Inv X pins σ H s→t σ H Q→wpAny (model X.prog X.w) X.A (isTrue e X.env (eval e X.env)) (TP X pins σ Q) X.xe s
noncomputable def PW (X:Cx) (e:Expr) (t:TT):Prop :=
 ∀ (whole:Sem Value) (pins:List (Addr × Obj)) (s:Shared) (σ:St) (H:Hp) (Q:Bool→Hp→Prop),Inv X pins σ H s→t σ H Q→wpAny (model X.prog X.w) X.A (isTrue e X.env whole) (TP X pins σ Q) X.xe s
theorem PW.pt {X:Cx} {e:Expr} {t:TT} (h:PW X e t):PT X e t:=h _
noncomputable def PA (X:Cx) (es:List Expr) (t:TA):Prop :=
 ∀ (pos:Pos) (pins:List (Addr × Obj)) (s:Shared) (σ:St) (H:Hp) (Q:List V→Hp→Prop),Inv X pins σ H s→t σ H Q→wpAny (model X.prog X.w) X.A (spliced (backTo pos (starEach es X.env))) (AP X pins σ Q) X.xe s
noncomputable def PS (X:Cx) (st:Stmt) (t:TS):Prop :=
 ∀ (pins:List (Addr × Obj)) (s:Shared) (σ:St) (H:Hp) (D:Ends),Inv X pins σ H s→t D σ H→wpAny (model X.prog X.w) X.A (exec st X.env) (SP X pins D) X.xe s
noncomputable def PSs (X:Cx) (st:List Stmt) (t:TS):Prop :=
 ∀ (pins:List (Addr × Obj)) (s:Shared) (σ:St) (H:Hp) (D:Ends),Inv X pins σ H s→t D σ H→wpAny (model X.prog X.w) X.A (execs st X.env) (SP X pins D) X.xe s
theorem thn {α:Type} {t:Sem α} {Q Q':α→Shared→Prop} {M:Model} {A:Around} {E:Value→Shared→Prop} {s:Shared} (h:wpAny M A t Q E s) (hQ:∀ a s,Q a s→Q' a s):wpAny M A t Q' E s:=wpAny_mono h hQ fun _ _ x=>x
section
variable {X:Cx}
noncomputable def qgo (i:Nat):TE:=fun σ H Q=>∃ v,σ[i]? =some (some v)∧Q v H
noncomputable def tC (v:V):TE:=fun _ H Q=>Q v H
theorem qex {i:Nat} {x:Str} {pos:Pos} (hN:X.N[i]? =some x) (hv:Vis X.env.scope x) (hd:(x==("__debug__":Str))=false:=by decide) (hcd:(x==("__classdict__":Str))=false:=by decide):PE X (.Name x pos) (qgo i):=by
 intro pins s σ H Q I h
 obtain ⟨v,e,h⟩:=h
 obtain ⟨m,hn,hl⟩:=I.loc
 obtain ⟨u,r,l⟩:=hl i x v hN e hv
 have fin:EP X pins σ Q u s:=⟨v,H,I,r,h⟩
 rcases l with ⟨hk,hm⟩ | ⟨hk,c,hc,hcell⟩
 · exact wpAny_Name (wpAny_loadName_local I.ok.kind hk hn hm fin) hd
 · rcases hk with hk | hk
   · exact wpAny_Name (wpAny_loadName_cell I.ok.kind hk hc hcell fin) hd
   · exact wpAny_Name (wpAny_loadName_free I.ok.kind hk hc hcell fin hcd) hd
theorem qgp {i j pos}:PE X (.Constant (.int i) j pos) (tC (.int i)):=fun _ _ _ H _ I h=>wpAny_Constant_int ⟨.int i,H,I.tok _,⟨_,rfl⟩,h⟩
theorem q03 {b j pos}:PE X (.Constant (.bool b) j pos) (tC (.bl b)):=fun _ _ _ H _ I h=>Constant_bool ⟨.bl b,H,I,rfl,h⟩
theorem qwt {j pos}:PE X (.Constant .none j pos) (tC .non):=fun _ _ _ H _ I h=>Constant_none ⟨.non,H,I,rfl,h⟩
theorem qjd {x j pos}:PE X (.Constant (.str x) j pos) (tC (.str x)):=fun _ _ _ H _ I h=>Calls.Constant_str ⟨.str x,H,I.tok _,⟨_,rfl⟩,h⟩
noncomputable def Gl (X:Cx) (x:Str):Prop:=X.env.kindOf x=some .globalImplicit
theorem qbi {E:Value→Shared→Prop} {pins:List (Addr × Obj)} {s:Shared} {σ:St} {H:Hp} {x:Str} {u:Value} {pos:Pos} {Q:Value→Shared→Prop} (I:Inv X pins σ H s) (hg:Gl X x) (hm:X.mg x=some u) (h:Q u s)
   (hd:(x==("__debug__":Str))=false:=by decide):wpAny (model X.prog X.w) X.A (eval (.Name x pos) X.env) Q E s :=
 Calls.Name_function_global I.ok.kind hg (Calls.loadGlobal_global (by rw[I.ok.glob];exact I.mod.glob.keeps I.bk) hm h) hd
theorem qcu {E:Value→Shared→Prop} {pins:List (Addr × Obj)} {s:Shared} {σ:St} {H:Hp} {x:Str} {u:Value} {pos:Pos} {Q:Value→Shared→Prop} (I:Inv X pins σ H s) (hg:Gl X x) (hm:X.mg x=none) (hv:bootBuiltins x=some u) (h:Q u s)
   (hn:x ≠ "__name__":=by decide) (hd:(x==("__debug__":Str))=false:=by decide):wpAny (model X.prog X.w) X.A (eval (.Name x pos) X.env) Q E s:=by
 obtain ⟨mb,h1,h2⟩:=I.mod.blt
 exact Calls.Name_function_global I.ok.kind hg (Calls.loadGlobal_builtin (by rw[I.ok.glob];exact I.mod.glob.keeps I.bk) hm (by rw[I.ok.blt];exact h1.keeps I.bk) ((h2 x hn).trans hv) h) hd
theorem qtc {x:Str} {v:V} {u:Value} {pos:Pos} (hg:Gl X x) (hm:X.mg x=some u) (r:RelV v u) (hd:(x==("__debug__":Str))=false:=by decide):PE X (.Name x pos) (tC v) :=
 fun _ _ _ H _ I h=>qbi I hg hm ⟨v,H,I,r,h⟩ hd
theorem qnq {x:Str} {v:V} {u:Value} {pos:Pos} (hg:Gl X x) (hm:X.mg x=none) (hv:bootBuiltins x=some u) (r:RelV v u) (hn:x ≠ "__name__":=by decide) (hd:(x==("__debug__":Str))=false:=by decide):PE X (.Name x pos) (tC v) :=
 fun _ _ _ H _ I h=>qcu I hg hm hv ⟨v,H,I,r,h⟩ hn hd
variable {a b:Expr} {ta tb:TE} {pos:Pos}
noncomputable def PC (X:Cx) (op:CmpOp) (a b:Expr) (t:TE):Prop :=
 ∀ (pins:List (Addr × Obj)) (s:Shared) (σ:St) (H:Hp) (Q:VK),Inv X pins σ H s→t σ H Q →
   wpAny (model X.prog X.w) X.A (eval a X.env) (fun v s₁=>wpAny (model X.prog X.w) X.A (eval b X.env) (fun u s₂=>wpAny (model X.prog X.w) X.A (compareOp op v u) (EP X pins σ Q) X.xe s₂) X.xe s₁) X.xe s
noncomputable def tB (t:TE):TT:=fun σ H Q=>t σ H fun x H1=>∃ c,x=.bl c∧Q c H1
theorem qwu {op:CmpOp} {t:TE} (h:PC X op a b t) (h1:behindInMarks op b=false:=by first | exact nobehind _ (by decide) (by decide) | rfl):PT X (.Compare a [op] [b] pos) (tB t):=by
 intro pins s σ H Q I hw
 refine wpAny_isTrue_Compare1 (thn (h pins s σ H _ I hw) fun v s1 h1=>thn h1 fun u s2 h2=>thn h2 fun c s3 ⟨x,H1,I1,r1,q1⟩=> ?_) h1
 obtain ⟨d,rfl,q⟩:=q1
 cases r1
 exact wpAny_truthy_bool ⟨H1,I1,q⟩
variable {tA tB':TT} {rest:List Expr}
noncomputable def q38 (t u:TT):TT:=fun σ H Q=>t σ H fun c H1=>if c=true then u σ H1 Q else Q false H1
noncomputable def tOr (t u:TT):TT:=fun σ H Q=>t σ H fun c H1=>if c=true then Q true H1 else u σ H1 Q
noncomputable def q39 (t:TT):TT:=fun σ H Q=>t σ H fun c H1=>Q (!c) H1
theorem qtd (ha:PT X a tA):PW X (.BoolOp .And [a] pos) tA:=by
 intro wh pins s σ H Q I h
 refine isTrue_and (thn (ha pins s σ H Q I h) fun c s1 e=> ?_)
 cases c with
 | true=>exact isTrue_and_nil e
 | false=>exact e
theorem qwv (ha:PT X a tA):PW X (.BoolOp .Or [a] pos) tA:=by
 intro wh pins s σ H Q I h
 refine isTrue_or (thn (ha pins s σ H Q I h) fun c s1 e=> ?_)
 cases c with
 | false=>exact isTrue_or_nil e
 | true=>exact e
theorem qww (ha:PT X a tA) (hb:PW X (.BoolOp .And (b::rest) pos) tB'):PW X (.BoolOp .And (a::b::rest) pos) (q38 tA tB'):=by
 intro wh pins s σ H Q I h
 refine isTrue_and (thn (ha pins s σ H _ I h) fun c s1 ⟨H1,I1,q1⟩=> ?_)
 cases c with
 | true=>exact hb wh pins s1 σ H1 Q I1 q1
 | false=>exact⟨H1,I1,q1⟩
theorem q04 (ha:PT X a tA) (hb:PW X (.BoolOp .Or (b::rest) pos) tB'):PW X (.BoolOp .Or (a::b::rest) pos) (tOr tA tB'):=by
 intro wh pins s σ H Q I h
 refine isTrue_or (thn (ha pins s σ H _ I h) fun c s1 ⟨H1,I1,q1⟩=> ?_)
 cases c with
 | true=>exact⟨H1,I1,q1⟩
 | false=>exact hb wh pins s1 σ H1 Q I1 q1
theorem qwx (ha:PT X a tA):PT X (.UnaryOp .Not a pos) (q39 tA):=by
 intro pins s σ H Q I h
 exact isTrue_not (ha pins s σ H (fun c H1=>Q (!c) H1) I h)
noncomputable def q05 (ta tb:TE):TE:=fun σ H Q=>ta σ H fun x H1=>∃ c,x=.bl c∧if c=true then tb σ H1 Q else Q (.bl false) H1
noncomputable def q4a (ta tb:TE):TE:=fun σ H Q=>ta σ H fun x H1=>∃ c,x=.bl c∧if c=true then Q (.bl true) H1 else tb σ H1 Q
noncomputable def q06 (ta:TE):TE:=fun σ H Q=>ta σ H fun x H1=>∃ c,x=.bl c∧Q (.bl (!c)) H1
theorem qwy {op} {t:TE} (h:PE X a t):PE X (.BoolOp op [a] pos) t:=fun pins s σ H Q I hw=>BoolOp_one (h pins s σ H Q I hw)
theorem qwz (ha:PE X a ta) (hb:PE X (.BoolOp .And (b::rest) pos) tb):PE X (.BoolOp .And (a::b::rest) pos) (q05 ta tb):=by
 intro pins s σ H Q I h
 refine BoolOp_and (thn (ha pins s σ H _ I h) fun v s1 ⟨x,H1,I1,r1,q1⟩=> ?_)
 obtain ⟨c,rfl,q1⟩:=q1
 cases r1
 refine wpAny_truthy_bool ?_
 cases c with
 | true=>exact hb pins s1 σ H1 Q I1 q1
 | false=>exact⟨.bl false,H1,I1,rfl,q1⟩
theorem q07 (ha:PE X a ta) (hb:PE X (.BoolOp .Or (b::rest) pos) tb):PE X (.BoolOp .Or (a::b::rest) pos) (q4a ta tb):=by
 intro pins s σ H Q I h
 refine BoolOp_or (thn (ha pins s σ H _ I h) fun v s1 ⟨x,H1,I1,r1,q1⟩=> ?_)
 obtain ⟨c,rfl,q1⟩:=q1
 cases r1
 refine wpAny_truthy_bool ?_
 cases c with
 | false=>exact hb pins s1 σ H1 Q I1 q1
 | true=>exact⟨.bl true,H1,I1,rfl,q1⟩
theorem qw0 (ha:PE X a ta):PE X (.UnaryOp .Not a pos) (q06 ta):=by
 intro pins s σ H Q I h
 refine UnaryOp_ (thn (ha pins s σ H _ I h) fun v s1 ⟨x,H1,I1,r1,q1⟩=> ?_)
 obtain ⟨c,rfl,q1⟩:=q1
 cases r1
 exact not_of (wpAny_truthy_bool ⟨.bl (!c),H1,I1,rfl,q1⟩)
noncomputable def tIf (t:TT) (ta tb:TE):TE:=fun σ H Q=>t σ H fun c H1=>if c=true then ta σ H1 Q else tb σ H1 Q
theorem qqk {c:Expr} (hc:PT X c tA) (ha:PE X a ta) (hb:PE X b tb):PE X (.IfExp c a b pos) (tIf tA ta tb):=by
 intro pins s σ H Q I h
 refine wpAny_IfExp (thn (hc pins s σ H _ I h) fun d s1 ⟨H1,I1,q1⟩=> ?_)
 cases d with
 | true=>exact ha pins s1 σ H1 Q I1 q1
 | false=>exact hb pins s1 σ H1 Q I1 q1
end
noncomputable def SqL (K:PySem.W.Frag) (H:Hp) (a:Addr) (xs:List V):Prop :=
 Rd H a (.lst xs) ∨
   ∃ (o:Obj) (its:Array Value) (n:Nat),K.lookup a=some o∧o.cls=.type "list"∧o.dict=none∧o.data=.seq its n∧its.size≤sizeLine∧Vals xs its.toList
noncomputable def SqT (K:PySem.W.Frag) (H:Hp) (a:Addr) (xs:List V):Prop :=
 Rd H a (.tup xs) ∨
   ∃ (o:Obj) (its:Array Value) (n:Nat),K.lookup a=some o∧o.cls=.type "tuple"∧o.data=.seq its n∧its.size≤sizeLine∧Vals xs its.toList
noncomputable def q4b:Value→Option V
 | .none=>some .non
 | .bool b=>some (.bl b)
 | .int i _=>some (.int i)
 | .str x _=>some (.str x)
 | .bytes b _=>some (.byt b)
 | .float b _=>some (.flt b)
 | .ref a=>some (.ref a)
 | .type n=>some (.ty n)
 | _=>none
theorem RelV.abs {x:V} {u:Value} (r:RelV x u):q4b u=some x:=by
 cases x with
 | non=>cases r;rfl
 | bl _=>cases r;rfl
 | int _=>obtain ⟨t,rfl⟩:=r;rfl
 | str _=>obtain ⟨t,rfl⟩:=r;rfl
 | byt _=>obtain ⟨t,rfl⟩:=r;rfl
 | flt _=>obtain ⟨t,rfl⟩:=r;rfl
 | ref _=>cases r;rfl
 | ty _=>cases r;rfl
theorem RelV.inj {x y:V} {u:Value} (r:RelV x u) (q:RelV y u):x=y:=Option.some.inj (r.abs.symm.trans q.abs)
theorem Vals.inj:∀ {xs ys:List V} {us:List Value},Vals xs us→Vals ys us→xs=ys
 | _,_,_,.nil,.nil=>rfl
 | _,_,_,.cons r t,.cons r' t'=>by rw[r.inj r',Vals.inj t t']
section
variable {X:Cx} {pins:List (Addr × Obj)} {σ:St} {H:Hp} {s:Shared} {a:Addr} {xs ys:List V}
theorem SqL.of {K:PySem.W.Frag} (h:H a=some (.lst xs)):SqL K H a xs:=.inl (.inl h)
theorem SqT.of {K:PySem.W.Frag} (h:H a=some (.tup xs)):SqT K H a xs:=.inl (.inl h)
theorem Inv.list (I:Inv X pins σ H s) (h:SqL X.K H a xs):∃ its:List Value,Vals xs its∧PlainL s.heap a its.toArray∧xs.length≤sizeLine:=by
 rcases h with h | ⟨o,its,n,hk,hc,hd,hs,hz,r⟩
 · obtain ⟨z,its,n,r,e⟩:=h.ok I.hok
   exact⟨its,r,⟨_,n,e,rfl,rfl,rfl⟩,z⟩
 · refine⟨its.toList,r,⟨o,n,I.kIn a o hk,hc,hd,by simpa using hs⟩,?_⟩
   have e:=r.length
   simp only [Array.length_toList]at e
   omega
theorem Inv.tuple (I:Inv X pins σ H s) (h:SqT X.K H a xs):∃ its:List Value,Vals xs its∧IsTup s.heap a its.toArray∧xs.length≤sizeLine:=by
 rcases h with h | ⟨o,its,n,hk,hc,hs,hz,r⟩
 · obtain ⟨z,its,r,p⟩:=h.ok I.hok
   exact⟨its,r,p,z⟩
 · refine⟨its.toList,r,⟨o,I.kIn a o hk,hc,n,by simpa using hs⟩,?_⟩
   have e:=r.length
   simp only [Array.length_toList]at e
   omega
theorem Inv.list_inj (I:Inv X pins σ H s) (h:SqL X.K H a xs) (h':SqL X.K H a ys):xs=ys:=by
 obtain ⟨its,r,⟨o,n,e,_,_,d⟩,_⟩:=I.list h
 obtain ⟨its',r',⟨o',n',e',_,_,d'⟩,_⟩:=I.list h'
 rw[e]at e';cases e'
 rw[d]at d'
 injection d' with d1 _
 have:its=its':=by simpa using congrArg Array.toList d1
 subst this
 exact r.inj r'
theorem Inv.tuple_inj (I:Inv X pins σ H s) (h:SqT X.K H a xs) (h':SqT X.K H a ys):xs=ys:=by
 obtain ⟨its,r,⟨o,e,_,n,d⟩,_⟩:=I.tuple h
 obtain ⟨its',r',⟨o',e',_,n',d'⟩,_⟩:=I.tuple h'
 rw[e]at e';cases e'
 rw[d]at d'
 injection d' with d1 _
 have:its=its':=by simpa using congrArg Array.toList d1
 subst this
 exact r.inj r'
end
noncomputable abbrev Cx.wish (X:Cx) (E:Value→Shared→Prop):Cx:={ X with xe:=E }
noncomputable abbrev Cx.nox (X:Cx):Cx:=X.wish fun _ _=>False
theorem Cx.Ok.wish {X:Cx} (ok:X.Ok) (E:Value→Shared→Prop):(X.wish E).Ok :=
 ⟨ok.mod,ok.kind,ok.glob,ok.blt,ok.above,ok.inj,ok.has,ok.cab,ok.hd,ok.frames,ok.stk,ok.exf,ok.bs,ok.bsz,ok.noex,ok.exfs,ok.funs,ok.frf⟩
theorem Cx.Ok.unwish {X:Cx} {E:Value→Shared→Prop} (ok:(X.wish E).Ok):X.Ok :=
 ⟨ok.mod,ok.kind,ok.glob,ok.blt,ok.above,ok.inj,ok.has,ok.cab,ok.hd,ok.frames,ok.stk,ok.exf,ok.bs,ok.bsz,ok.noex,ok.exfs,ok.funs,ok.frf⟩
section
variable {X:Cx} {pins:List (Addr × Obj)} {σ:St} {H:Hp} {s:Shared} {E:Value→Shared→Prop}
theorem Inv.wish (I:Inv X pins σ H s) (E:Value→Shared→Prop):Inv (X.wish E) pins σ H s:=⟨I.ok.wish E,I.os,I.bare,I.base,I.loc,I.cell,I.free,I.freeC,I.pin,I.hok,I.len⟩
theorem Inv.unwish (I:Inv (X.wish E) pins σ H s):Inv X pins σ H s:=⟨I.ok.unwish,I.os,I.bare,I.base,I.loc,I.cell,I.free,I.freeC,I.pin,I.hok,I.len⟩
theorem SP.unwish {D:Ends} {f:Flow} {s':Shared} (h:SP (X.wish E) pins D f s'):SP X pins D f s':=by
 cases f with
 | next=>obtain ⟨σ',H',I,q⟩:=h;exact⟨σ',H',I.unwish,q⟩
 | brk=>obtain ⟨σ',H',I,q⟩:=h;exact⟨σ',H',I.unwish,q⟩
 | cont=>obtain ⟨σ',H',I,q⟩:=h;exact⟨σ',H',I.unwish,q⟩
 | ret u=>obtain ⟨v,σ',H',I,r,q⟩:=h;exact⟨v,σ',H',I.unwish,r,q⟩
theorem PT.nox {e:Expr} {t:TT} (h:PT X.nox e t):PT X e t:=fun pins s σ H Q I hw =>
 wpAny_mono (h pins s σ H Q (I.wish _) hw) (fun _ _ ⟨H',I',q⟩=>⟨H',I'.unwish,q⟩) fun _ _ z=>False.elim z
theorem PSs.nox {st:List Stmt} {t:TS} (h:PSs X.nox st t):PSs X st t:=fun pins s σ H D I hw =>
 wpAny_mono (h pins s σ H D (I.wish _) hw) (fun _ _ q=>q.unwish) fun _ _ z=>False.elim z
end
section
variable {X:Cx} {st:Stmt} {rest:List Stmt} {t u:TS} {e:Expr} {te:TE} {pos:Pos}
noncomputable def qv9:TS:=fun D σ H=>D.nx σ H
noncomputable def q4c (t u:TS):TS:=fun D σ H=>t { D with nx:=u D } σ H
theorem qte:PSs X [] qv9:=fun _ _ σ H _ I h=>wpAny_execs_nil ⟨σ,H,I,h⟩
theorem qef (h1:PS X st t) (h2:PSs X rest u):PSs X (st::rest) (q4c t u):=by
 intro pins s σ H D I h
 refine wpAny_execs_cons (thn (h1 pins s σ H { D with nx:=u D } I h) fun f s1 q=> ?_)
 cases f with
 | next =>
   obtain ⟨σ',H',I',q⟩:=q
   exact h2 pins s1 σ' H' D I' q
 | ret v=>exact q
 | brk=>exact q
 | cont=>exact q
theorem qeg (h1:PS X st t):PSs X [st] t:=by
 intro pins s σ H D I h
 refine wpAny_execs_cons (thn (h1 pins s σ H D I h) fun f s1 q=> ?_)
 cases f with
 | next=>exact wpAny_execs_nil q
 | ret v=>exact q
 | brk=>exact q
 | cont=>exact q
noncomputable def qw1:TS:=fun D σ H=>D.bk σ H
noncomputable def q08:TS:=fun D σ H=>D.ct σ H
theorem qtf:PS X (.Pass pos) qv9:=fun _ _ σ H _ I h=>wpAny_Pass ⟨σ,H,I,h⟩
theorem qql:PS X (.Break pos) qw1:=fun _ _ σ H _ I h=>wpAny_Break ⟨σ,H,I,h⟩
theorem qkw:PS X (.Continue pos) q08:=fun _ _ σ H _ I h=>wpAny_Continue ⟨σ,H,I,h⟩
theorem Inv.quiet {pins:List (Addr × Obj)} {σ:St} {H:Hp} {s:Shared} (I:Inv X pins σ H s):interactive X.env=false:=by simp [interactive,I.ok.kind]
noncomputable def q09 (te:TE):TS:=fun D σ H=>te σ H fun _ H1=>D.nx σ H1
theorem qje (he:PE X e te) (hs:swapsWith e none pos.line X.env=pure false:=by rfl):PS X (.Expr e pos) (q09 te):=by
 intro pins s σ H D I h
 exact wpAny_Expr_any (thn (he pins s σ H _ I h) fun v s1 ⟨x,H1,I1,r1,q1⟩=>⟨σ,H1,I1,q1⟩) I.quiet hs
noncomputable def q4d (te:TE):TS:=fun D σ H=>te σ H D.rt
theorem qqm (he:PE X e te):PS X (.Return (some e) pos) (q4d te):=by
 intro pins s σ H D I h
 exact wpAny_Return_some (thn (he pins s σ H _ I h) fun v s1 ⟨x,H1,I1,r1,q1⟩=>⟨x,σ,H1,I1,r1,q1⟩)
noncomputable def q1a:TS:=fun D _ H=>D.rt .non H
theorem qtg:PS X (.Return none pos) q1a:=fun _ _ σ H _ I h=>wpAny_Return_none ⟨.non,σ,H,I,rfl,h⟩
noncomputable def q4e (c:TT) (t u:TS):TS:=fun D σ H=>c σ H fun b H1=>if b=true then t D σ H1 else u D σ H1
theorem qwa {c:Expr} {a b:List Stmt} {tc:TT} (hc:PT X c tc) (ha:PSs X a t) (hb:PSs X b u):PS X (.If c a b pos) (q4e tc t u):=by
 intro pins s σ H D I h
 refine wpAny_If (thn (hc pins s σ H _ I h) fun d s1 ⟨H1,I1,q1⟩=> ?_)
 cases d with
 | true=>exact ha pins s1 σ H1 D I1 q1
 | false=>exact hb pins s1 σ H1 D I1 q1
noncomputable def qw2:TS:=fun _ _ _=>False
theorem qii {sts:List Stmt}:PSs X sts qw2:=fun _ _ _ _ _ _ h=>h.elim
end
noncomputable abbrev TG:=V→St→Hp→(St→Hp→Prop)→Prop
noncomputable abbrev TGs:=List V→St→Hp→(St→Hp→Prop)→Prop
noncomputable def PG (X:Cx) (target:Expr) (t:TG):Prop :=
 ∀ (pins:List (Addr × Obj)) (s:Shared) (σ:St) (H:Hp) (v:V) (u:Value) (Q:St→Hp→Prop),Inv X pins σ H s→RelV v u→t v σ H Q →
   wpAny (model X.prog X.w) X.A (assign target X.env u) (fun _ s'=>∃ σ' H',Inv X pins σ' H' s'∧Q σ' H') X.xe s
noncomputable def PGs (X:Cx) (ts:List Expr) (t:TGs):Prop :=
 ∀ (pins:List (Addr × Obj)) (s:Shared) (σ:St) (H:Hp) (vs:List V) (us:List Value) (Q:St→Hp→Prop),Inv X pins σ H s→Vals vs us→t vs σ H Q →
   wpAny (model X.prog X.w) X.A (assignInOrder ((assignEach ts X.env).map (·.2)) us) (fun _ s'=>∃ σ' H',Inv X pins σ' H' s'∧Q σ' H') X.xe s
noncomputable abbrev qmg:=V→V→V→Hp→(Hp→Prop)→Prop
noncomputable def qhw (X:Cx) (t:qmg):Prop :=
 ∀ (pins:List (Addr × Obj)) (s:Shared) (σ:St) (H:Hp) (o i v:V) (ov iv u:Value) (Q:Hp→Prop),Inv X pins σ H s→RelV o ov→RelV i iv→RelV v u→t o i v H Q →
   wpAny (model X.prog X.w) X.A (setItem ov iv u) (fun _ s'=>∃ H',Inv X pins σ H' s'∧Q H') X.xe s
noncomputable abbrev TIp:=V→V→Hp→VK→Prop
noncomputable def PIp (X:Cx) (op:Operator) (t:TIp):Prop :=
 ∀ (pins:List (Addr × Obj)) (s:Shared) (σ:St) (H:Hp) (x y:V) (v u:Value) (Q:VK),Inv X pins σ H s→RelV x v→RelV y u→t x y H Q →
   wpAny (model X.prog X.w) X.A (inplaceOp op v u) (EP X pins σ Q) X.xe s
section
variable {X:Cx} {pos:Pos}
noncomputable def qij (i:Nat):TG:=fun v σ H Q=>Q (σ.set i (some v)) H
theorem qth {i:Nat} {x:Str} (hN:X.N.Nodup) (hi:X.N[i]? =some x) (hx:Loc X.env.scope x) (hf:X.fn x=true∨X.env.scope.names.lookup x=some .local:=by first | exact .inl rfl | exact .inr rfl | assumption):PG X (.Name x pos) (qij i):=by
 intro pins s σ H v u Q I r h
 exact wpAny_assign_Name (qcd I hN hi hx r (fun s' I'=>⟨_,H,I',h⟩) hf)
noncomputable def q4f:TGs:=fun vs σ H Q=>vs=[]∧Q σ H
noncomputable def q1b (t:TG) (u:TGs):TGs:=fun vs σ H Q=>∃ v r,vs=v::r∧t v σ H fun σ' H'=>u r σ' H' Q
theorem qti:PGs X [] q4f:=by
 intro pins s σ H vs us Q I r h
 obtain ⟨e,h⟩:=h
 subst e
 cases r
 exact assignInOrder_nil ⟨σ,H,I,h⟩
theorem qqn {e:Expr} {es:List Expr} {t:TG} {u:TGs} (h1:PG X e t) (h2:PGs X es u)
   (hs:(assignEach (e::es) X.env).map (·.2)=assign e X.env::(assignEach es X.env).map (·.2):=by rfl):PGs X (e::es) (q1b t u):=by
 intro pins s σ H vs us Q I r h
 obtain ⟨v,vr,e1,h⟩:=h
 subst e1
 cases r with
 | cons r rr =>
   rw[hs]
   refine assignInOrder_cons (thn (h1 pins s σ H _ _ _ I r h) fun _ s1 ⟨σ1,H1,I1,q1⟩=> ?_)
   exact h2 pins s1 σ1 H1 _ _ Q I1 rr q1
noncomputable def q4g (K:PySem.W.Frag) (n:Nat) (t:TGs):TG:=fun v σ H Q=>∃ a xs,v=.ref a∧SqT K H a xs∧xs.length=n∧t xs σ H Q
theorem qw3 {es:List Expr} {k:Nat} {t:TGs} {n:Nat} (hc:X.calm=true) (h:PGs X es t)
   (hn:(assignEach es X.env).length=n:=by rfl) (hst:(assignEach es X.env).findIdx? (·.1)=none:=by rfl):PG X (.Tuple es k pos) (q4g X.K n t):=by
 intro pins s σ H v u Q I r hw
 obtain ⟨a,xs,e1,hq,hl,hw⟩:=hw
 subst e1
 cases r
 obtain ⟨its,rv,ht,hz⟩:=I.tuple hq
 refine assign_Tuple_tuple (I.ok.hd hc) ht (by simp [hn,← hl,rv.length]) hst fun h' hx=> ?_
 have I1:Inv X pins σ H { s with heap:=h' }:=I.kept (t':=s.toks) fun b o e=>hx b o (Nat.ne_of_lt (Heap.lt_size e)) e
 exact h pins _ σ H xs _ Q I1 (by simpa using rv) hw
noncomputable def q4h (to ti:TE) (t:qmg):TG:=fun v σ H Q=>to σ H fun o H1=>ti σ H1 fun i H2=>t o i v H2 fun H3=>Q σ H3
theorem qw4 {o i:Expr} {to ti:TE} {t:qmg} (ho:PE X o to) (hi:PE X i ti) (hs:qhw X t)
   (ha:∀ v,assign (.Subscript o i pos) X.env v=(do
     let ov ← holding [v] (eval o X.env)
     let iv ← holding [v,ov] (eval i X.env)
     standAt pos
     holding [v,ov,iv] (setItem ov iv v)
     release [v,ov,iv] []):=by intro _;rfl):PG X (.Subscript o i pos) (q4h to ti t):=by
 intro pins s σ H v u Q I r h
 rw[ha]
 refine wpAny_bind (wpAny_holding (thn (ho pins s σ H _ I h) fun ov s1 ⟨x,H1,I1,r1,q1⟩=> ?_))
 refine wpAny_bind (wpAny_holding (thn (hi pins s1 σ H1 _ I1 q1) fun iv s2 ⟨y,H2,I2,r2,q2⟩=> ?_))
 refine wpAny_bind (wpAny_standAt (wpAny_bind (wpAny_holding (thn (hs pins s2 σ H2 x y v ov iv u _ I2 r1 r2 r q2) fun _ s3 ⟨H3,I3,q3⟩=> ?_))))
 exact wpAny_release ⟨σ,H3,I3,q3⟩
noncomputable def qoy (te:TE) (g:TG):TS:=fun D σ H=>te σ H fun x H1=>g x σ H1 D.nx
theorem qw5 {tg e:Expr} {te:TE} {g:TG} (he:PE X e te) (hg:PG X tg g) (hs:swapsWithSole [tg] e pos.line X.env=pure false:=by rfl) (hw:swappedStores [tg] e X.env=pure none:=by rfl)
   (h1:(assignEach [tg] X.env).map (·.2)=[assign tg X.env]:=by rfl):PS X (.Assign [tg] e pos) (qoy te g):=by
 intro pins s σ H D I h
 refine wpAny_Assign_stores (thn (he pins s σ H _ I h) fun v s1 ⟨x,H1,I1,r1,q1⟩=> ?_) hs hw
 rw[h1]
 exact thn (hg pins s1 σ H1 x v _ I1 r1 q1) fun _ s2 q=>q
theorem qmh {i:Nat} {x:Str} {e:Expr} {te:TE} {pos':Pos} (hN:X.N.Nodup) (hi:X.N[i]? =some x) (hx:Loc X.env.scope x) (he:PE X e te) (hs:swapsWith e (some (.Name x pos')) pos.line X.env=pure false:=by rfl) (hf:X.fn x=true∨X.env.scope.names.lookup x=some .local:=by first | exact .inl rfl | exact .inr rfl | assumption) :
   PS X (.Assign [.Name x pos'] e pos) (qoy te (qij i)):=by
 intro pins s σ H D I h
 refine wpAny_Assign_Name (thn (he pins s σ H _ I h) fun v s1 ⟨y,H1,I1,r1,q1⟩=> ?_) hs
 exact qcd I1 hN hi hx r1 (fun s2 I2=>⟨_,H1,I2,q1⟩) hf
noncomputable def q4i (i j:Nat) (ta:TA):TS:=fun D σ H=>ta σ H fun vs H1=>∃ v w,vs=[v,w]∧D.nx ((σ.set i (some v)).set j (some w)) H1
theorem qw6 {i j:Nat} {x y:Str} {a b:Expr} {ta:TA} {px py pt:Pos} {kt k2 pt2} (hc:X.calm=true) (hN:X.N.Nodup) (hi:X.N[i]? =some x) (hj:X.N[j]? =some y) (hij:i ≠ j)
   (hx:X.env.scope.names.lookup x=some .local) (hy:X.env.scope.names.lookup y=some .local) (ha:PA X [a,b] ta)
   (hw:swappedStores [.Tuple [.Name x px,.Name y py] kt pt] (.Tuple [a,b] k2 pt2) X.env=pure (some [x,y]))
   (hs:swapsWithSole [.Tuple [.Name x px,.Name y py] kt pt] (.Tuple [a,b] k2 pt2) pos.line X.env=pure false:=by rfl) :
   PS X (.Assign [.Tuple [.Name x px,.Name y py] kt pt] (.Tuple [a,b] k2 pt2) pos) (q4i i j ta):=by
 intro pins s σ H D I h
 rw[exec_Assign_arm]
 refine wpAny_bind (wpAny_standAt ?_)
 rw[hs]
 refine wpAny_bind (wpAny_pure ?_)
 rw[if_neg (by decide)]
 refine wpAny_bind (Tuple_ (thn (ha _ pins s σ H _ I h) fun us s1 ⟨vs,H1,I1,r1,q1⟩=> ?_))
 obtain ⟨v,w,e1,q1⟩:=q1
 subst e1
 obtain ⟨u1,u2,rfl,rv,rw'⟩:∃ u1 u2,us=[u1,u2]∧RelV v u1∧RelV w u2:=by
   cases r1 with
   | cons p q =>
     cases q with
     | cons p' q' =>
       cases q'
       exact⟨_,_,rfl,p,p'⟩
 refine wpAny_newObj_type ?_ (by show 2≤sizeLine;decide)
 have I2:Inv X pins σ H1 { s1 with heap:=s1.heap.push { cls:=.type "tuple",data:=.seq [u1,u2].toArray } }:=I1.kept (t':=s1.toks) fun b o e=>Heap.get?_push_of_some _ e
 rw[hw]
 refine wpAny_bind (wpAny_pure ?_)
 show wpAny (model X.prog X.w) X.A (do rule "assign.swapped-stores";let items ← unpackItems (.ref s1.heap.objs.size) 2 none;assignInOrder [fun v=>bindName X.env y v,fun v=>bindName X.env x v] items.reverse;pure Flow.next) _ _ _
 refine wpAny_bind (wpAny_rule (wpAny_bind (unpackItems_tuple (items:= #[u1,u2]) (I.ok.hd hc) (IsTup.new s1.heap _) fun h' hx'=> ?_)))
 have I3:=I2.kept (h':=h') (t':=s1.toks) fun b o e=>hx' b o (Nat.ne_of_lt (Heap.lt_size e)) e
 show wpAny _ _ (assignInOrder [fun v=>bindName X.env y v,fun v=>bindName X.env x v] [u2,u1] >>= fun _=>pure Flow.next) _ _ _
 refine wpAny_bind (assignInOrder_cons (wpAny_bindName (qcd I3 hN hj (.inl hy) rw' (fun s2 I4=> ?_) (.inr hy))))
 refine assignInOrder_cons (wpAny_bindName (qcd I4 hN hi (.inl hx) rv (fun s3 I5=>assignInOrder_nil (wpAny_pure ?_)) (.inr hx)))
 rw[List.set_comm _ _ (Ne.symm hij)]at I5
 exact⟨_,H1,I5,q1⟩
noncomputable def q4j (i:Nat) (te:TE) (ti:TIp):TS:=fun D σ H=>∃ x,σ[i]? =some (some x)∧te σ H fun y H1=>ti x y H1 fun z H2=>D.nx (σ.set i (some z)) H2
theorem qw7 {i:Nat} {x:Str} {e:Expr} {te:TE} {op:Operator} {ti:TIp} {pos':Pos} (hN:X.N.Nodup) (hi:X.N[i]? =some x) (hx:Loc X.env.scope x) (he:PE X e te) (ho:PIp X op ti) (hf:X.fn x=true∨X.env.scope.names.lookup x=some .local:=by first | exact .inl rfl | exact .inr rfl | assumption) :
   PS X (.AugAssign (.Name x pos') op e pos) (q4j i te ti):=by
 intro pins s σ H D I h
 obtain ⟨v,e1,h⟩:=h
 obtain ⟨m,hn,hl⟩:=I.loc
 have vis:Vis X.env.scope x:=by rcases hx with k | k;exact .inl k;exact .inr (.inl k)
 obtain ⟨u,r,l⟩:=hl i x v hi e1 vis
 refine wpAny_AugAssign_Name ?_
 have go:wpAny (model X.prog X.w) X.A (eval e X.env) (fun w s₂=>wpAny (model X.prog X.w) X.A (inplaceOp op u w) (fun r s₃=>wpAny (model X.prog X.w) X.A (storeName X.env x r) (fun _=>SP X pins D .next) X.xe s₃) X.xe s₂) X.xe s:=by
   refine thn (he pins s σ H _ I h) fun w s1 ⟨y,H1,I1,r1,q1⟩=> ?_
   refine thn (ho pins s1 σ H1 v y u w _ I1 r r1 q1) fun z s2 ⟨zv,H2,I2,r2,q2⟩=> ?_
   exact qcd I2 hN hi hx r2 (fun s3 I3=>⟨_,H2,I3,q2⟩) hf
 rcases l with ⟨hk,hm⟩ | ⟨hk,c,hc,hcell⟩
 · exact wpAny_loadName_local I.ok.kind hk hn hm go
 · rcases hk with hk | hk
   · exact wpAny_loadName_cell I.ok.kind hk hc hcell go
   · rcases hx with k | k
     · have:X.env.scope.names.lookup x=some .free:=hk
       rw[k]at this;cases this
     · have:X.env.scope.names.lookup x=some .free:=hk
       rw[k]at this;cases this
noncomputable def q1c (to ti te:TE) (tget:V→V→Hp→VK→Prop) (tip:TIp) (tset:qmg):TS:=fun D σ H=>to σ H fun o H1=>ti σ H1 fun i H2=>tget o i H2 fun x H3=>te σ H3 fun y H4=>tip x y H4 fun z H5=>tset o i z H5 fun H6=>D.nx σ H6
noncomputable def qkx (X:Cx) (t:V→V→Hp→VK→Prop):Prop :=
 ∀ (pins:List (Addr × Obj)) (s:Shared) (σ:St) (H:Hp) (o i:V) (ov iv:Value) (Q:VK),Inv X pins σ H s→RelV o ov→RelV i iv→t o i H Q →
   wpAny (model X.prog X.w) X.A (getItem ov iv) (EP X pins σ Q) X.xe s
theorem qtj {o i e:Expr} {to ti te:TE} {tget:V→V→Hp→VK→Prop} {tip:TIp} {tset:qmg} {op:Operator} {tpos:Pos} (ho:PE X o to) (hi:PE X i ti) (hg:qkx X tget) (he:PE X e te) (hp:PIp X op tip) (hs:qhw X tset)
   (ha:∀ ov iv new,augStore i ov iv new=(do holding [new,ov,iv] (setItem ov iv new);release [new,ov,iv] [];pure .next):=by intros;rfl):PS X (.AugAssign (.Subscript o i tpos) op e pos) (q1c to ti te tget tip tset):=by
 intro pins s σ H D I h
 refine wpAny_AugAssign_SubscriptAny (thn (ho pins s σ H _ I h) fun ov s1 ⟨x1,H1,I1,r1,q1⟩=> ?_) ha
 refine thn (hi pins s1 σ H1 _ I1 q1) fun iv s2 ⟨x2,H2,I2,r2,q2⟩=> ?_
 refine thn (hg pins s2 σ H2 x1 x2 ov iv _ I2 r1 r2 q2) fun old s3 ⟨x3,H3,I3,r3,q3⟩=> ?_
 refine thn (he pins s3 σ H3 _ I3 q3) fun v s4 ⟨x4,H4,I4,r4,q4⟩=> ?_
 refine thn (hp pins s4 σ H4 x3 x4 old v _ I4 r3 r4 q4) fun new s5 ⟨x5,H5,I5,r5,q5⟩=> ?_
 exact thn (hs pins s5 σ H5 x1 x2 x5 ov iv new _ I5 r1 r2 r5 q5) fun _ s6 ⟨H6,I6,q6⟩=>⟨σ,H6,I6,q6⟩
noncomputable def ipI (f:Int→Int→Int):TIp:=fun x y H Q=>∃ i j,x=.int i∧y=.int j∧Q (.int (f i j)) H
theorem qw8:PIp X .Add (ipI fun i j=>i+j):=by
 intro pins s σ H x y v u Q I r1 r2 h
 obtain ⟨i,j,e1,e2,q⟩:=h
 subst e1;subst e2
 obtain ⟨t,rfl⟩:=r1
 obtain ⟨t',rfl⟩:=r2
 exact iadd_int ⟨.int _,H,I.tok _,⟨_,rfl⟩,q⟩
theorem qw9:PIp X .Sub (ipI fun i j=>i - j):=by
 intro pins s σ H x y v u Q I r1 r2 h
 obtain ⟨i,j,e1,e2,q⟩:=h
 subst e1;subst e2
 obtain ⟨t,rfl⟩:=r1
 obtain ⟨t',rfl⟩:=r2
 exact isub_int ⟨.int _,H,I.tok _,⟨_,rfl⟩,q⟩
end
section
variable {X:Cx} {pos:Pos}
noncomputable def qxa (c:TT) (tb:TS):TS:=fun D σ H=>∃ W:Nat→St→Hp→Prop,(∃ m,W m σ H)∧∀ m σ H,W m σ H →
 c σ H fun b H1=>if b=true then ∃ N:St→Hp→Prop,(∀ σ' H',N σ' H'→∃ m',m' < m∧W m' σ' H')∧tb { D with nx:=N,ct:=N,bk:=D.nx } σ H1 else D.nx σ H1
theorem qqo {c:Expr} {body:List Stmt} {tc:TT} {tb:TS} (hp:PassesOwn (model X.prog X.w) X.A X.env X.xe) (hc:PT X c tc) (hb:PSs X body tb):PS X (.While c body [] pos) (qxa tc tb):=by
 intro pins s σ H D I h
 obtain ⟨W,⟨m0,w0⟩,turn⟩:=h
 refine wpAny_While (codeAny_whileLoop (fun n s'=>∃ σ' H',Inv X pins σ' H' s'∧W n σ' H') ?_ m0 ⟨σ,H,I,w0⟩)
 rintro n s1 ⟨σ1,H1,I1,w1⟩
 refine wpAny_passesOwn hp (thn (hc pins s1 σ1 H1 _ I1 (turn n σ1 H1 w1)) fun b s2 ⟨H2,I2,q2⟩=> ?_)
 cases b with
 | true =>
   obtain ⟨N,hN,q2⟩:=q2
   rw[if_pos rfl]
   refine wpAny_passesOwn hp (thn (hb pins s2 σ1 H2 _ I2 q2) fun f s3 q3=> ?_)
   cases f with
   | next =>
     obtain ⟨σ3,H3,I3,n3⟩:=q3
     obtain ⟨m',hm,w3⟩:=hN σ3 H3 n3
     exact⟨m',hm,σ3,H3,I3,w3⟩
   | cont =>
     obtain ⟨σ3,H3,I3,n3⟩:=q3
     obtain ⟨m',hm,w3⟩:=hN σ3 H3 n3
     exact⟨m',hm,σ3,H3,I3,w3⟩
   | brk=>exact q3
   | ret v=>exact q3
 | false =>
   rw[if_neg Bool.false_ne_true]
   exact wpAny_execs_nil ⟨σ1,H2,I2,q2⟩
end
set_option genInjectivity false in
structure It where
 go:Nat→Hp→Prop
 yld:Nat→Hp→V→Hp→Prop
 stop:Nat→Hp→Prop
noncomputable def qci (X:Cx) (pins:List (Addr × Obj)) (H:Hp) (b:Addr):Prop :=
 H b=none∧b ≠ X.env.locals∧b ∉ X.fs∧(b ∈ X.ex∨X.s₀.heap.objs.size≤b)∧(∀ x c,X.env.cells.lookup x=some c→c ≠ b)∧∀ p ∈ X.pn++pins,p.1 ≠ b
theorem Inv.fpOk {X:Cx} {pins:List (Addr × Obj)} {σ:St} {H H':Hp} {s:Shared} {b:Addr} (I:Inv X pins σ H s) (hb:s.heap.objs.size≤b) (hn:H' b=none):qci X pins H' b:=by
 refine⟨hn,Nat.ne_of_gt (Nat.lt_of_lt_of_le I.lt hb),I.nofs hb,.inr (Nat.le_trans I.sz hb),fun x c e z=> ?_,fun p hp z=> ?_⟩
 · obtain ⟨v,q⟩:=I.cell x c e
   exact absurd (Nat.lt_of_lt_of_le q.lt (by rw[z];exact hb)) (Nat.lt_irrefl _)
 · exact absurd (Nat.lt_of_lt_of_le (Heap.lt_size (I.pin p hp).1) (by rw[z];exact hb)) (Nat.lt_irrefl _)
structure Turn (P:Program) (w:World) (K:PySem.W.Frag) (tg:Expr) (J:It) (fp:List Addr) (it:Addr) (tn:Nat→Heap→Prop):Prop where
 mem:it ∈ fp
 obj:∀ i h,tn i h→∀ b ∈ fp,∃ o,h.get? b=some o∧∀ v,o.data ≠ .cell v
 keep:∀ i h h',tn i h→(∀ b ∈ fp,∀ o,h.get? b=some o→h'.get? b=some o)→tn i h'
 item:∀ (X:Cx),X.prog=P→X.w=w→X.K=K→X.calm=true→∀ (i:Nat) (pins:List (Addr × Obj)) (s:Shared) (σ:St) (H:Hp) (E:Value→Shared→Prop),Inv X pins σ H s→(∀ b ∈ fp,qci X pins H b)→tn i s.heap→J.go i H →
   wpAny (model P w) X.A (pyNext (.ref it)) (fun r s1=>∃ u,r=some u ∧
     wpAny (model P w) X.A (letOwnedTupleGo tg (.ref it) u) (fun _ s2=>∃ x H',Inv X pins σ H' s2∧RelV x u∧J.yld i H x H'∧tn (i+1) s2.heap∧∀ b ∈ fp,H' b=none) E s1) E s
 done:∀ (X:Cx),X.prog=P→X.w=w→X.K=K→X.calm=true→∀ (i:Nat) (pins:List (Addr × Obj)) (s:Shared) (σ:St) (H:Hp) (E:Value→Shared→Prop),Inv X pins σ H s→(∀ b ∈ fp,qci X pins H b)→tn i s.heap→J.stop i H →
   wpAny (model P w) X.A (pyNext (.ref it)) (fun r s1=>r=none∧Inv X pins σ H s1) E s
 self:∀ (A:Around) (i:Nat) (s:Shared) (Q:Value→Shared→Prop) (E:Value→Shared→Prop),tn i s.heap→Q (.ref it) s→wpAny (model P w) A (pyIter (.ref it)) Q E s
noncomputable abbrev TI:=St→Hp→(It→Hp→Prop)→Prop
noncomputable def PIE (X:Cx) (pins:List (Addr × Obj)) (σ:St) (tg:Expr) (R:It→Hp→Prop) (itv:Value) (s2:Shared):Prop :=
 ∃ (it:Addr) (fp:List Addr) (tn:Nat→Heap→Prop) (J:It) (H':Hp),itv=.ref it∧Inv X pins σ H' s2∧Turn X.prog X.w X.K tg J fp it tn∧tn 0 s2.heap∧(∀ b ∈ fp,qci X pins H' b)∧R J H'
noncomputable def PI (X:Cx) (tg iter:Expr) (wi:TI):Prop :=
 ∀ (pins:List (Addr × Obj)) (s:Shared) (σ:St) (H:Hp) (R:It→Hp→Prop),Inv X pins σ H s→wi σ H R →
   wpAny (model X.prog X.w) X.A (eval iter X.env) (fun v s1=>wpAny (model X.prog X.w) X.A (pyIter v) (PIE X pins σ tg R) X.xe s1) X.xe s
theorem qky {M:Model} {A:Around} {E:Value→Shared→Prop} {s:Shared} {tg:Expr} {it:Addr} {u:Value} {o:Obj} {n:String} {vs:Array Value} {Q:Unit→Shared→Prop} (ho:s.heap.get? it=some o) (hc:o.cls=.type n) (hd:o.data=.fields vs)
   (hn:["enumerate","zip","dict_itemiterator","dict_reverseitemiterator","odict_iterator","itertools.zip_longest","itertools.pairwise"].contains n=false) (hQ:Q () s):wpAny M A (letOwnedTupleGo tg (.ref it) u) Q E s:=by
 unfold letOwnedTupleGo
 cases tg <;> first
   | exact wpAny_pure hQ
   | (cases u <;> first
       | exact wpAny_pure hQ
       | (refine wpAny_bind (wpAny_load ho ?_)
          rw[hc,hd]
          show wpAny M A (if (["enumerate","zip","dict_itemiterator","dict_reverseitemiterator","odict_iterator","itertools.zip_longest","itertools.pairwise"].contains n && vs[0]? ==some (rawInt _))=true then _ else _) Q E s
          rw[if_neg (by intro h;rw[hn,Bool.false_and]at h;cases h)]
          exact wpAny_pure hQ))
noncomputable def Itl (K:PySem.W.Frag) (a:Addr):It :=
 ⟨fun i H=>∃ xs x,SqL K H a xs∧xs[i]? =some x,fun i H x H'=>H'=H∧∀ xs,SqL K H a xs→xs[i]? =some x,fun i H=>∃ xs,SqL K H a xs∧xs.length≤i⟩
noncomputable def Itt (K:PySem.W.Frag) (a:Addr):It :=
 ⟨fun i H=>∃ xs x,SqT K H a xs∧xs[i]? =some x,fun i H x H'=>H'=H∧∀ xs,SqT K H a xs→xs[i]? =some x,fun i H=>∃ xs,SqT K H a xs∧xs.length≤i⟩
noncomputable def Itr (lo:Int) (n:Nat):It:=⟨fun i _=>i < n,fun i H x H'=>H'=H∧x=.int (lo+i),fun i _=>n≤i⟩
theorem qoz {P:Program} {w:World} {K:PySem.W.Frag} {tg:Expr} (a it:Addr):Turn P w K tg (Itl K a) [it] it (fun i h=>h.IsListIter it a i) where
 mem:=by simp
 obj:=fun i h st b hb=>by
   have e:b=it:=by simpa using hb
   subst e
   obtain ⟨o,e,c,d⟩:=st
   exact⟨o,e,fun v z=>by rw[d]at z;cases z⟩
 keep:=fun i h h' st k=>st.at fun o e=>k it (by simp) o e
 item:=by
   intro X hP hw hK hc i pins s σ H E I hf st hg
   subst hP hw hK
   obtain ⟨xs,x,hq,hx⟩:=hg
   obtain ⟨its,rv,p,hz⟩:=I.list hq
   obtain ⟨u,hu,ru⟩:=rv.get hx
   obtain ⟨f0,f1,f2,f3,f4,f5⟩:=hf it (by simp)
   refine wpAny_pyNext_list_item st p.isList (x:=u) (by simpa using hu) fun h' st' sb=> ?_
   have I1:Inv X pins σ H { s with heap:=h' }:=I.turned (t':=s.toks) (fun b o hb e=>(sb.2 b hb).trans e) f0 f1 f3 f4 f5
   obtain ⟨o,e,c,d⟩:=id st'
   exact⟨u,rfl,qky (s:={ s with heap:=h' }) e c d (by decide) ⟨x,H,I1,ru,⟨rfl,fun ys hy=>by rw[I.list_inj hy hq];exact hx⟩,st',fun b hb=>(hf b hb).1⟩⟩
 done:=by
   intro X hP hw hK hc i pins s σ H E I hf st hg
   subst hP hw hK
   obtain ⟨xs,hq,hx⟩:=hg
   obtain ⟨its,rv,p,hz⟩:=I.list hq
   obtain ⟨f0,f1,f2,f3,f4,f5⟩:=hf it (by simp)
   have hl:=rv.length
   exact wpAny_pyNext_list_end (I.ok.hd hc) st p.isList (by simp;omega) fun h' eb=>⟨rfl,I.turned (t':=s.toks) (fun b o hb e=>eb b o hb e) f0 f1 f3 f4 f5⟩
 self:=fun _ _ _ _ _ st h=>wpAny_pyIter_listiter st h
theorem qmi {P:Program} {w:World} {K:PySem.W.Frag} {tg:Expr} (a it:Addr):Turn P w K tg (Itt K a) [it] it (fun i h=>h.IsTupleIter it a i) where
 mem:=by simp
 obj:=fun i h st b hb=>by
   have e:b=it:=by simpa using hb
   subst e
   obtain ⟨o,e,c,d⟩:=st
   exact⟨o,e,fun v z=>by rw[d]at z;cases z⟩
 keep:=fun i h h' st k=>st.at fun o e=>k it (by simp) o e
 item:=by
   intro X hP hw hK hc i pins s σ H E I hf st hg
   subst hP hw hK
   obtain ⟨xs,x,hq,hx⟩:=hg
   obtain ⟨its,rv,p,hz⟩:=I.tuple hq
   obtain ⟨u,hu,ru⟩:=rv.get hx
   obtain ⟨f0,f1,f2,f3,f4,f5⟩:=hf it (by simp)
   refine wpAny_pyNext_tuple_item st (show s.heap.IsTuple a its.toArray from p) (x:=u) (by simpa using hu) fun h' st' sb=> ?_
   have I1:Inv X pins σ H { s with heap:=h' }:=I.turned (t':=s.toks) (fun b o hb e=>(sb.2 b hb).trans e) f0 f1 f3 f4 f5
   obtain ⟨o,e,c,d⟩:=id st'
   exact⟨u,rfl,qky (s:={ s with heap:=h' }) e c d (by decide) ⟨x,H,I1,ru,⟨rfl,fun ys hy=>by rw[I.tuple_inj hy hq];exact hx⟩,st',fun b hb=>(hf b hb).1⟩⟩
 done:=by
   intro X hP hw hK hc i pins s σ H E I hf st hg
   subst hP hw hK
   obtain ⟨xs,hq,hx⟩:=hg
   obtain ⟨its,rv,p,hz⟩:=I.tuple hq
   obtain ⟨f0,f1,f2,f3,f4,f5⟩:=hf it (by simp)
   have hl:=rv.length
   exact wpAny_pyNext_tuple_end (I.ok.hd hc) st (show s.heap.IsTuple a its.toArray from p) (by simp;omega) fun h' eb=>⟨rfl,I.turned (t':=s.toks) (fun b o hb e=>eb b o hb e) f0 f1 f3 f4 f5⟩
 self:=fun _ _ _ _ _ st h=>wpAny_pyIter_tupleiter st h
theorem qmj {P:Program} {w:World} {K:PySem.W.Frag} {tg:Expr} (it:Addr) (lo:Int) (n:Nat):Turn P w K tg (Itr lo n) [it] it (fun i h=>IsRangeIter h it (lo+(i:Nat) * 1) ((n:Int) - (i:Nat)) 1) where
 mem:=by simp
 obj :=fun i h st b hb=>by
   have e:b=it:=by simpa using hb
   subst e
   exact⟨_,st,fun v z=>by
     have z':Data.fields _=Data.cell v:=z
     cases z'⟩
 keep:=fun i h h' st k=>k it (by simp) _ st
 item:=by
   intro X hP hw hK hc i pins s σ H E I hf st hg
   subst hP hw hK
   obtain ⟨f0,f1,f2,f3,f4,f5⟩:=hf it (by simp)
   have W:=Walks.range (prog:=X.prog) (w:=X.w) (I.ok.hd hc) it lo 1 n
   refine W.item i s _ _ hg st fun v h' tk hv st' kk=> ?_
   obtain ⟨t,rfl⟩:=hv
   have I1:Inv X pins σ H { s with heap:=h',toks:=tk }:=I.turned (fun b o hb e=>kk b o (by simpa using hb) e) f0 f1 f3 f4 f5
   refine⟨_,rfl,qky (s:={ s with heap:=h',toks:=tk }) (n:="range_iterator") st' rfl rfl (by decide) ⟨.int (lo+i),H,I1,⟨t,?_⟩,⟨rfl,rfl⟩,st',fun b hb=>(hf b hb).1⟩⟩
   rw[Int.mul_one]
 done:=by
   intro X hP hw hK hc i pins s σ H E I hf st hg
   subst hP hw hK
   obtain ⟨f0,f1,f2,f3,f4,f5⟩:=hf it (by simp)
   exact wpAny_pyNext_range_end (I.ok.hd hc) st (by have:n≤i:=hg;omega) fun h' eb=>⟨rfl,I.turned (t':=s.toks) (fun b o hb e=>eb b o hb e) f0 f1 f3 f4 f5⟩
 self:=fun _ _ _ _ _ st h=>wpAny_pyIter_rangeiter st h
section
variable {X:Cx} {tg:Expr}
noncomputable def q1d (K:PySem.W.Frag) (tl:TE):TI:=fun σ H R=>tl σ H fun x H1=>∃ a,x=.ref a∧(∃ xs,SqL K H1 a xs)∧R (Itl K a) H1
noncomputable def q4k (K:PySem.W.Frag) (tl:TE):TI:=fun σ H R=>tl σ H fun x H1=>∃ a,x=.ref a∧(∃ xs,SqT K H1 a xs)∧R (Itt K a) H1
theorem qtk {l:Expr} {tl:TE} (hl:PE X l tl):PI X tg l (q1d X.K tl):=by
 intro pins s σ H R I h
 refine thn (hl pins s σ H _ I h) fun v s1 ⟨x,H1,I1,r1,q1⟩=> ?_
 obtain ⟨a,e,⟨xs,hq⟩,q⟩:=q1
 subst e
 cases r1
 obtain ⟨its,rv,p,hz⟩:=I1.list hq
 refine wpAny_pyIter_list p.isList ?_
 refine⟨s1.heap.objs.size,[s1.heap.objs.size],_,_,H1,rfl,I1.kept (t':=s1.toks) fun b o e=>Heap.get?_push_of_some _ e,qoz a _,⟨_,Heap.get?_push_size _ rfl,rfl,rfl⟩,fun b hb=> ?_,q⟩
 have e:b=s1.heap.objs.size:=by simpa using hb
 subst e
 exact I1.fpOk (Nat.le_refl _) (I1.hok.fresh (Nat.le_refl _))
theorem qxb {l:Expr} {tl:TE} (hl:PE X l tl):PI X tg l (q4k X.K tl):=by
 intro pins s σ H R I h
 refine thn (hl pins s σ H _ I h) fun v s1 ⟨x,H1,I1,r1,q1⟩=> ?_
 obtain ⟨a,e,⟨xs,hq⟩,q⟩:=q1
 subst e
 cases r1
 obtain ⟨its,rv,p,hz⟩:=I1.tuple hq
 refine wpAny_pyIter_tuple (show s1.heap.IsTuple a its.toArray from p) ?_
 refine⟨s1.heap.objs.size,[s1.heap.objs.size],_,_,H1,rfl,I1.kept (t':=s1.toks) fun b o e=>Heap.get?_push_of_some _ e,qmi a _,⟨_,Heap.get?_push_size _ rfl,rfl,rfl⟩,fun b hb=> ?_,q⟩
 have e:b=s1.heap.objs.size:=by simpa using hb
 subst e
 exact I1.fpOk (Nat.le_refl _) (I1.hok.fresh (Nat.le_refl _))
theorem qkz {pins:List (Addr × Obj)} {σ:St} {H:Hp} {s:Shared} {R:It→Hp→Prop} {E:Value→Shared→Prop} {lo hi:Int} {t u v:Tok} {tk:Nat} (I:Inv X pins σ H s) (h1: -(2 ^ 62)≤lo) (h2:lo < 2 ^ 62) (h3: -(2 ^ 62)≤hi) (h4:hi < 2 ^ 62)
   (q:R (Itr lo (hi - lo).toNat) H):wpAny (model X.prog X.w) X.A (pyIter (.ref s.heap.objs.size)) (PIE X pins σ tg R) E { s with heap:=s.heap.push { cls:=.type "range",data:=.fields #[.int lo t,.int hi u,.int 1 v] },toks:=tk }:=by
 refine wpAny_pyIter_range (IsRange.new ..) (small_one h1 h2 h3 h4) ?_
 have I1:Inv X pins σ H { s with heap:=s.heap.push { cls:=.type "range",data:=.fields #[.int lo t,.int hi u,.int 1 v] },toks:=tk }:=I.kept fun b o e=>Heap.get?_push_of_some _ e
 refine⟨(s.heap.push { cls:=.type "range",data:=.fields #[.int lo t,.int hi u,.int 1 v] }).objs.size,[(s.heap.push { cls:=.type "range",data:=.fields #[.int lo t,.int hi u,.int 1 v] }).objs.size],_,_,H,rfl,
   I1.kept (t':=tk) fun b o e=>Heap.get?_push_of_some _ e,qmj _ lo (hi - lo).toNat,?_,fun b hb=> ?_,q⟩
 · have e1:lo+((0:Nat):Int) * 1=lo:=by simp
   have e2:(((hi - lo).toNat:Nat):Int) - ((0:Nat):Int)=Builtin.Range.rangeSize lo hi 1:=by rw[rangeSize_one];split <;> omega
   show IsRangeIter _ _ (lo+((0:Nat):Int) * 1) ((((hi - lo).toNat:Nat):Int) - ((0:Nat):Int)) 1
   rw[e1,e2]
   exact Heap.get?_push_size _ rfl
 · have e:b=(s.heap.push { cls:=.type "range",data:=.fields #[.int lo t,.int hi u,.int 1 v] }).objs.size:=by simpa using hb
   subst e
   exact I1.fpOk (Nat.le_refl _) (I1.hok.fresh (Nat.le_refl _))
noncomputable def q1e (ta:TA):TI:=fun σ H R=>ta σ H fun vs H1=>∃ j:Int,vs=[.int j]∧ -(2 ^ 62)≤j∧j < 2 ^ 62∧R (Itr 0 j.toNat) H1
noncomputable def q1f (ta:TA):TI:=fun σ H R=>ta σ H fun vs H1=>∃ i j:Int,vs=[.int i,.int j]∧(-(2 ^ 62)≤i∧i < 2 ^ 62∧ -(2 ^ 62)≤j∧j < 2 ^ 62)∧R (Itr i (j - i).toNat) H1
theorem qo0 {a:Expr} {ta:TA} {p pos:Pos} (hg:Gl X "range") (hm:X.mg "range"=none) (ha:PA X [a] ta) (hs:starEach [a] X.env=[(false,eval a X.env)]:=by rfl):PI X tg (.Call (.Name "range" p) [a] [] pos) (q1e ta):=by
 intro pins s σ H R I h
 refine Call_ (qcu I hg hm boot_range (PyProof.Rows.callWith_type1 (thn (ha pos pins s σ H _ I h) fun us s1 ⟨vs,H1,I1,r1,q1⟩=> ?_) hs rfl))
 obtain ⟨j,e,q1,q2,q⟩:=q1
 subst e
 cases r1 with
 | cons r rr =>
   cases rr
   obtain ⟨t,rfl⟩:=r
   exact call_range_1 (qkz I1 (by omega) (by omega) q1 q2 (by simpa using q))
theorem qo1 {a b:Expr} {ta:TA} {p pos:Pos} (hg:Gl X "range") (hm:X.mg "range"=none) (ha:PA X [a,b] ta) (hs:starEach [a,b] X.env=[(false,eval a X.env),(false,eval b X.env)]:=by rfl) (hs2:starEach [b] X.env=[(false,eval b X.env)]:=by rfl) :
   PI X tg (.Call (.Name "range" p) [a,b] [] pos) (q1f ta):=by
 intro pins s σ H R I h
 refine Call_ (qcu I hg hm boot_range (PyProof.Rows.callWith_type1 (thn (ha pos pins s σ H _ I h) fun us s1 ⟨vs,H1,I1,r1,q1⟩=> ?_) (by rw[hs,hs2]) (by rw[hs2];rfl)))
 obtain ⟨i,j,e,⟨q1,q2,q3,q4⟩,q⟩:=q1
 subst e
 cases r1 with
 | cons r rr =>
   cases rr with
   | cons r' rr =>
     cases rr
     obtain ⟨t,rfl⟩:=r
     obtain ⟨t',rfl⟩:=r'
     exact call_range_2 (qkz I1 q1 q2 q3 q4 q)
noncomputable def q4l (wi:TI) (g:TG) (tb:TS):TS:=fun D σ H=>wi σ H fun J H1=>∃ W:Nat→Nat→St→Hp→Prop,(∃ m,W 0 m σ H1)∧∀ i m σ H,W i m σ H →
 (J.stop i H∧D.nx σ H)∨(J.go i H∧∃ N:St→Hp→Prop,(∀ σ' H',N σ' H'→∃ m',m' < m∧W (i+1) m' σ' H')∧∀ x H',J.yld i H x H'→g x σ H' fun σ2 H2=>tb { D with nx:=N,ct:=N,bk:=D.nx } σ2 H2)
noncomputable def qcj (fp:List Addr) (h:Heap):List (Addr × Obj):=fp.filterMap fun b=>(h.get? b).map fun o=>(b,o)
theorem qag {fp:List Addr} {h:Heap} {b:Addr} {o:Obj} (hb:b ∈ fp) (e:h.get? b=some o):(b,o) ∈ qcj fp h:=List.mem_filterMap.mpr ⟨b,hb,by rw[e];rfl⟩
theorem qik {fp:List Addr} {h:Heap} {p:Addr × Obj} (hp:p ∈ qcj fp h):p.1 ∈ fp∧h.get? p.1=some p.2:=by
 obtain ⟨b,hb,e⟩:=List.mem_filterMap.mp hp
 cases q:h.get? b with
 | none=>rw[q]at e;cases e
 | some o =>
   rw[q]at e
   have e':(b,o)=p:=Option.some.inj e
   subst e'
   exact⟨hb,q⟩
theorem Inv.pinned {pins:List (Addr × Obj)} {σ:St} {H:Hp} {s:Shared} {fp:List Addr} (I:Inv X pins σ H s) (hf:∀ b ∈ fp,qci X pins H b) (ho:∀ b ∈ fp,∃ o,s.heap.get? b=some o∧∀ v,o.data ≠ .cell v):Inv X (pins++qcj fp s.heap) σ H s :=
 I.pins_of fun p hp=>(List.mem_append.mp hp).elim (fun z=>I.pin p (List.mem_append_right _ z)) fun z=>by
   obtain ⟨hb,e⟩:=qik z
   obtain ⟨f0,f1,f2,_⟩:=hf p.1 hb
   obtain ⟨o,e',d⟩:=ho p.1 hb
   rw[e]at e';cases e'
   exact⟨e,f0,f1,f2,d⟩
theorem Inv.unpinned {pins pl:List (Addr × Obj)} {σ:St} {H:Hp} {s:Shared} (I:Inv X (pins++pl) σ H s):Inv X pins σ H s:=I.pins_of fun p hp=>I.pin p (List.mem_append_right _ (List.mem_append_left _ hp))
theorem qxc {iter:Expr} {body:List Stmt} {wi:TI} {g:TG} {tb:TS} {pos:Pos} (hp:PassesOwn (model X.prog X.w) X.A X.env X.xe) (hc:X.calm=true) (hi:PI X tg iter wi) (hg:PG X tg g) (hb:PSs X body tb)
   (hs:∀ x,foldedSetIterable iter X.env x=pure x:=by intro _;rfl):PS X (.For tg iter body [] pos) (q4l wi g tb):=by
 intro pins s σ H D I h
 refine wpAny_For (thn (hi pins s σ H _ I h) fun v s1 h1=>thn h1 fun itv s2 h2=> ?_) hs
 obtain ⟨it,fp,tn,J,H2,e,I2,T,st2,f2,W,⟨m0,w0⟩,turn⟩:=h2
 subst e
 have stat:∀ {H':Hp},(∀ b ∈ fp,H' b=none)→∀ b ∈ fp,qci X pins H' b:=fun hn b hb=>⟨hn b hb,(f2 b hb).2⟩
 refine codeAny_forLoop_any (fun n s'=>∃ i σ' H',Inv X pins σ' H' s'∧tn i s'.heap∧(∀ b ∈ fp,H' b=none)∧W i n σ' H') ?_ m0 ⟨0,σ,H2,I2,st2,fun b hb=>(f2 b hb).1,w0⟩
 rintro n s3 ⟨i,σ3,H3,I3,st3,fr3,w3⟩
 rcases turn i n σ3 H3 w3 with ⟨stop,qn⟩ | ⟨go,N,hN,step⟩
 · refine wpAny_passesOwn hp (thn (T.done X rfl rfl rfl hc i pins s3 σ3 H3 X.xe I3 (stat fr3) st3 stop) fun r s4 ⟨hr,I4⟩=> ?_)
   subst hr
   exact wpAny_execs_nil ⟨σ3,H3,I4,qn⟩
 · refine wpAny_passesOwn hp (thn (T.item X rfl rfl rfl hc i pins s3 σ3 H3 X.xe I3 (stat fr3) st3 go) fun r s4 ⟨u,hr,h4⟩=> ?_)
   subst hr
   refine wpAny_passesOwn hp (thn h4 fun _ s5 ⟨x,H5,I5,r5,y5,st5,fr5⟩=> ?_)
   have I5':=I5.pinned (stat fr5) (T.obj _ _ st5)
   refine wpAny_passesOwn hp (thn (hg _ s5 σ3 H5 x u _ I5' r5 (step x H5 y5)) fun _ s6 ⟨σ6,H6,I6,q6⟩=> ?_)
   refine wpAny_passesOwn hp (thn (hb _ s6 σ6 H6 _ I6 q6) fun f s7 q7=> ?_)
   have again:∀ {σ7:St} {H7:Hp},Inv X (pins++qcj fp s5.heap) σ7 H7 s7→N σ7 H7→∃ m,m < n∧∃ i σ' H',Inv X pins σ' H' s7∧tn i s7.heap∧(∀ b ∈ fp,H' b=none)∧W i m σ' H':=fun {σ7 H7} I7 n7=>by
     obtain ⟨m',hm,w7⟩:=hN σ7 H7 n7
     refine⟨m',hm,i+1,σ7,H7,I7.unpinned,T.keep _ _ _ st5 fun b hb o e=>(I7.pin (b,o) (List.mem_append_right _ (List.mem_append_right _ (qag hb e)))).1,fun b hb=> ?_,w7⟩
     obtain ⟨o,e,d⟩:=T.obj _ _ st5 b hb
     exact(I7.pin (b,o) (List.mem_append_right _ (List.mem_append_right _ (qag hb e)))).2.1
   cases f with
   | next=>obtain ⟨σ7,H7,I7,n7⟩:=q7;exact again I7 n7
   | cont=>obtain ⟨σ7,H7,I7,n7⟩:=q7;exact again I7 n7
   | brk=>obtain ⟨σ7,H7,I7,q7⟩:=q7;exact⟨σ7,H7,I7.unpinned,q7⟩
   | ret v=>obtain ⟨x7,σ7,H7,I7,r7,q7⟩:=q7;exact⟨x7,σ7,H7,I7.unpinned,r7,q7⟩
end
noncomputable abbrev R2:=V→V→Hp→VK→Prop
noncomputable def OpR (X:Cx) (f:Value→Value→Sem Value) (r:R2):Prop :=
 ∀ (pins:List (Addr × Obj)) (s:Shared) (σ:St) (H:Hp) (x y:V) (v u:Value) (Q:VK),Inv X pins σ H s→RelV x v→RelV y u→r x y H Q →
   wpAny (model X.prog X.w) X.A (f v u) (EP X pins σ Q) X.xe s
noncomputable def UnR (X:Cx) (f:Value→Sem Value) (r:V→Hp→VK→Prop):Prop :=
 ∀ (pins:List (Addr × Obj)) (s:Shared) (σ:St) (H:Hp) (x:V) (v:Value) (Q:VK),Inv X pins σ H s→RelV x v→r x H Q →
   wpAny (model X.prog X.w) X.A (f v) (EP X pins σ Q) X.xe s
noncomputable def qx (X:Cx) (f:Value) (r:List V→Hp→VK→Prop):Prop :=
 ∀ (pins:List (Addr × Obj)) (s:Shared) (σ:St) (H:Hp) (xs:List V) (us:List Value) (Q:VK),Inv X pins σ H s→Vals xs us→r xs H Q →
   wpAny (model X.prog X.w) X.A (call f us) (EP X pins σ Q) X.xe s
noncomputable def q1g (X:Cx) (r:V→Hp→(Bool→Hp→Prop)→Prop):Prop :=
 ∀ (pins:List (Addr × Obj)) (s:Shared) (σ:St) (H:Hp) (x:V) (v:Value) (Q:Bool→Hp→Prop),Inv X pins σ H s→RelV x v→r x H Q →
   wpAny (model X.prog X.w) X.A (truthy v) (TP X pins σ Q) X.xe s
noncomputable def tOp (r:R2) (ta tb:TE):TE:=fun σ H Q=>ta σ H fun x H1=>tb σ H1 fun y H2=>r x y H2 Q
noncomputable def tUn (r:V→Hp→VK→Prop) (ta:TE):TE:=fun σ H Q=>ta σ H fun x H1=>r x H1 Q
noncomputable def rI (C:Int→Int→Prop) (g:Int→Int→V):R2:=fun x y H Q=>∃ i j,x=.int i∧y=.int j∧C i j∧Q (g i j) H
noncomputable def rI0 (g:Int→Int→V):R2:=fun x y H Q=>∃ i j,x=.int i∧y=.int j∧Q (g i j) H
noncomputable def rU (g:Int→V):V→Hp→VK→Prop:=fun x H Q=>∃ i,x=.int i∧Q (g i) H
section
variable {X:Cx} {a b c:Expr} {ta tb tc:TE} {pos:Pos}
theorem qxd (ha:PE X a ta) (hb:PE X b tb) {pins:List (Addr × Obj)} {s:Shared} {σ:St} {H:Hp} {R:V→V→Hp→Prop} (I:Inv X pins σ H s)
   (h:ta σ H fun x H1=>tb σ H1 fun y H2=>R x y H2) {Q:Value→Shared→Prop} {f:Value→Value→Sem Value}
   (hf:∀ v u s2 x y H2,Inv X pins σ H2 s2→RelV x v→RelV y u→R x y H2→wpAny (model X.prog X.w) X.A (f v u) Q X.xe s2) :
   wpAny (model X.prog X.w) X.A (eval a X.env) (fun v s₁=>wpAny (model X.prog X.w) X.A (eval b X.env) (fun u s₂=>wpAny (model X.prog X.w) X.A (f v u) Q X.xe s₂) X.xe s₁) X.xe s:=by
 refine thn (ha pins s σ H _ I h) fun v s1 ⟨x,H1,I1,r1,q1⟩=> ?_
 refine thn (hb pins s1 σ H1 _ I1 q1) fun u s2 ⟨y,H2,I2,r2,q2⟩=> ?_
 exact hf v u s2 x y H2 I2 r1 r2 q2
theorem q1h {op:Operator} {r:R2} (ho:OpR X (binaryOp op) r) (ha:PE X a ta) (hb:PE X b tb):PE X (.BinOp a op b pos) (tOp r ta tb):=by
 intro pins s σ H Q I h
 exact wpAny_BinOp (qxd ha hb I h fun v u s2 x y H2 I2 rx ry q=>ho pins s2 σ H2 x y v u Q I2 rx ry q)
theorem q1i {op:UnaryOp} {r:V→Hp→VK→Prop} (ho:UnR X (unaryOp op) r) (ha:PE X a ta):PE X (.UnaryOp op a pos) (tUn r ta):=by
 intro pins s σ H Q I h
 exact UnaryOp_ (thn (ha pins s σ H _ I h) fun v s1 ⟨x,H1,I1,r1,q1⟩=>ho pins s1 σ H1 x v Q I1 r1 q1)
theorem opI {f:Value→Value→Sem Value} {C:Int→Int→Prop} {g:Int→Int→Int}
   (rule:∀ (i j:Int) (t u:Tok) (s:Shared) (Q:Value→Shared→Prop) (E:Value→Shared→Prop),C i j→Q (.int (g i j) s.toks) { s with toks:=s.toks+1 }→wpAny (model X.prog X.w) X.A (f (.int i t) (.int j u)) Q E s) :
   OpR X f (rI C fun i j=>.int (g i j)):=by
 intro pins s σ H x y v u Q I rx ry h
 obtain ⟨i,j,rfl,rfl,hc,q⟩:=h
 obtain ⟨t,rfl⟩:=rx
 obtain ⟨t',rfl⟩:=ry
 exact rule i j t t' s _ _ hc ⟨.int (g i j),H,I.tok _,⟨_,rfl⟩,q⟩
theorem q1j {f:Value→Value→Sem Value} {g:Int→Int→Int}
   (rule:∀ (i j:Int) (t u:Tok) (s:Shared) (Q:Value→Shared→Prop) (E:Value→Shared→Prop),Q (.int (g i j) s.toks) { s with toks:=s.toks+1 }→wpAny (model X.prog X.w) X.A (f (.int i t) (.int j u)) Q E s) :
   OpR X f (rI0 fun i j=>.int (g i j)):=by
 intro pins s σ H x y v u Q I rx ry h
 obtain ⟨i,j,rfl,rfl,q⟩:=h
 obtain ⟨t,rfl⟩:=rx
 obtain ⟨t',rfl⟩:=ry
 exact rule i j t t' s _ _ ⟨.int (g i j),H,I.tok _,⟨_,rfl⟩,q⟩
theorem qtl {f:Value→Value→Sem Value} {g:Int→Int→Bool}
   (rule:∀ (i j:Int) (t u:Tok) (s:Shared) (Q:Value→Shared→Prop) (E:Value→Shared→Prop),Q (.bool (g i j)) s→wpAny (model X.prog X.w) X.A (f (.int i t) (.int j u)) Q E s) :
   OpR X f (rI0 fun i j=>.bl (g i j)):=by
 intro pins s σ H x y v u Q I rx ry h
 obtain ⟨i,j,rfl,rfl,q⟩:=h
 obtain ⟨t,rfl⟩:=rx
 obtain ⟨t',rfl⟩:=ry
 exact rule i j t t' s _ _ ⟨.bl (g i j),H,I,rfl,q⟩
noncomputable def qk0 (i j:Int):Prop:=0≤j∧j≤1000000∧i.natAbs < 2 ^ 64
noncomputable def qo2 (i j:Int):Prop:=(-(2 ^ 64) < i∧i < 2 ^ 64)∨(-(2 ^ 64) < j∧j < 2 ^ 64)
theorem qo2.ok {i j:Int} (h:qo2 i j):IntMulOk i j:=by
 rcases h with ⟨h1,h2⟩ | ⟨h1,h2⟩
 · exact .of_left (intBits_le_64 h1 h2)
 · exact .of_right (intBits_le_64 h1 h2)
theorem qxe:OpR X (binaryOp .Add) (rI0 fun i j=>.int (i+j)):=q1j fun _ _ _ _ _ _ _ q=>add_int q
theorem qxf:OpR X (binaryOp .Sub) (rI0 fun i j=>.int (i - j)):=q1j fun _ _ _ _ _ _ _ q=>sub_int q
theorem qxg:OpR X (binaryOp .Mult) (rI qo2 fun i j=>.int (i * j)):=opI fun _ _ _ _ _ _ _ hc q=>mul_int q hc.ok
theorem qxh:OpR X (binaryOp .Mod) (rI (fun _ j=>0 < j) fun i j=>.int (i % j)):=opI fun i j _ _ _ _ _ hc q=>by
 have h1:(0:Int) < j:=hc
 exact mod_int' (by omega) (by rw[Int.fmod_eq_emod_of_nonneg i (by omega)];exact q)
theorem qxi:OpR X (binaryOp .Pow) (rI qk0 fun i j=>.int (i ^ j.toNat)):=opI fun _ _ _ _ _ _ _ hc q=>pow_int_small hc.1 hc.2.1 hc.2.2 q
theorem unI {f:Value→Sem Value} {g:Int→Int}
   (rule:∀ (i:Int) (t:Tok) (s:Shared) (Q:Value→Shared→Prop) (E:Value→Shared→Prop),Q (.int (g i) s.toks) { s with toks:=s.toks+1 }→wpAny (model X.prog X.w) X.A (f (.int i t)) Q E s) :
   UnR X f (rU fun i=>.int (g i)):=by
 intro pins s σ H x v Q I rx h
 obtain ⟨i,rfl,q⟩:=h
 obtain ⟨t,rfl⟩:=rx
 exact rule i t s _ _ ⟨.int (g i),H,I.tok _,⟨_,rfl⟩,q⟩
theorem qxj:UnR X (unaryOp .USub) (rU fun i=>.int (-i)):=unI fun _ _ _ _ _ q=>neg_int q
end
noncomputable def qmk:V→V→Bool
 | .non,.non=>true | .non,.int _=>true | .int _,.non=>true | .non,.bl _=>true | .bl _,.non=>true | .non,.str _=>true | .str _,.non=>true
 | .int _,.int _=>true | .bl _,.bl _=>true | .str _,.str _=>true | .byt _,.byt _=>true
 | .int _,.str _=>true | .str _,.int _=>true | .bl _,.str _=>true | .str _,.bl _=>true
 | _,_=>false
noncomputable def rEq:R2:=fun x y H Q=>qmk x y=true∧Q (.bl (decide (x=y))) H
noncomputable def rNe:R2:=fun x y H Q=>qmk x y=true∧Q (.bl (!decide (x=y))) H
theorem qjf {i j:Int}:decide (V.int i=V.int j)=(i==j):=by
 rw[Bool.eq_iff_iff]
 simp
theorem qqp {i j:Bool}:decide (V.bl i=V.bl j)=(i==j):=by
 rw[Bool.eq_iff_iff]
 simp
theorem qnr {i j:Str}:decide (V.str i=V.str j)=(i==j):=by
 rw[Bool.eq_iff_iff]
 simp
theorem qns {i j:Array UInt8}:decide (V.byt i=V.byt j)=(i.toList==j.toList):=by
 rw[Bool.eq_iff_iff]
 cases i
 cases j
 simp
section
variable {X:Cx} {a b c:Expr} {ta tb tc:TE} {pos:Pos}
theorem ql {pins:List (Addr × Obj)} {σ:St} {H:Hp} {s:Shared} {Q:VK} {k k':Bool} (I:Inv X pins σ H s) (q:Q (.bl k) H) (e:k=k'):EP X pins σ Q (.bool k') s:=by
 subst e
 exact⟨.bl k,H,I,rfl,q⟩
theorem q1k:OpR X (compareOp .Eq) rEq:=by
 intro pins s σ H x y v u Q I rx ry h
 obtain ⟨hs,q⟩:=h
 cases x with
 | non =>
   cases rx
   cases y with
   | non=>cases ry;exact PySem.EqNone.eq_none_none (ql I q (by simp))
   | bl j=>cases ry;exact PySem.EqNone.eq_none_bool (ql I q (by simp))
   | int j=>obtain ⟨t',rfl⟩:=ry;exact PySem.EqNone.eq_none_int (ql I q (by simp))
   | str j=>obtain ⟨t',rfl⟩:=ry;exact PySem.EqNone.eq_none_str (ql I q (by simp))
   | _=>exact absurd (show false=true from hs) Bool.false_ne_true
 | bl i =>
   cases rx
   cases y with
   | non=>cases ry;exact PySem.EqNone.eq_bool_none (ql I q (by simp))
   | bl j=>cases ry;exact eq_bool (ql I q qqp)
   | str j=>obtain ⟨t',rfl⟩:=ry;exact PySem.EqMixed.eq_bool_str (ql I q (by simp))
   | _=>exact absurd (show false=true from hs) Bool.false_ne_true
 | int i =>
   obtain ⟨t,rfl⟩:=rx
   cases y with
   | non=>cases ry;exact PySem.EqNone.eq_int_none (ql I q (by simp))
   | int j=>obtain ⟨t',rfl⟩:=ry;exact eq_int (ql I q qjf)
   | str j=>obtain ⟨t',rfl⟩:=ry;exact PySem.EqMixed.eq_int_str (ql I q (by simp))
   | _=>exact absurd (show false=true from hs) Bool.false_ne_true
 | str i =>
   obtain ⟨t,rfl⟩:=rx
   cases y with
   | non=>cases ry;exact PySem.EqNone.eq_str_none (ql I q (by simp))
   | bl j=>cases ry;exact PySem.EqMixed.eq_str_bool (ql I q (by simp))
   | int j=>obtain ⟨t',rfl⟩:=ry;exact PySem.EqMixed.eq_str_int (ql I q (by simp))
   | str j=>obtain ⟨t',rfl⟩:=ry;exact eq_str (ql I q qnr)
   | _=>exact absurd (show false=true from hs) Bool.false_ne_true
 | byt i =>
   obtain ⟨t,rfl⟩:=rx
   cases y with
   | byt j=>obtain ⟨t',rfl⟩:=ry;exact PySem.W.eq_bytes (ql I q qns)
   | _=>exact absurd (show false=true from hs) Bool.false_ne_true
 | _=>cases y <;> exact absurd (show false=true from hs) Bool.false_ne_true
theorem q1l:OpR X (compareOp .NotEq) rNe:=by
 intro pins s σ H x y v u Q I rx ry h
 obtain ⟨hs,q⟩:=h
 cases x with
 | non =>
   cases rx
   cases y with
   | non=>cases ry;exact PySem.EqNone.ne_none_none (ql I q (by simp))
   | bl j=>cases ry;exact PySem.EqNone.ne_none_bool (ql I q (by simp))
   | int j=>obtain ⟨t',rfl⟩:=ry;exact PySem.EqNone.ne_none_int (ql I q (by simp))
   | str j=>obtain ⟨t',rfl⟩:=ry;exact PySem.EqNone.ne_none_str (ql I q (by simp))
   | _=>exact absurd (show false=true from hs) Bool.false_ne_true
 | bl i =>
   cases rx
   cases y with
   | non=>cases ry;exact PySem.EqNone.ne_bool_none (ql I q (by simp))
   | bl j=>cases ry;exact ne_bool (ql I q (congrArg not qqp))
   | str j=>obtain ⟨t',rfl⟩:=ry;exact PySem.EqMixed.ne_bool_str (ql I q (by simp))
   | _=>exact absurd (show false=true from hs) Bool.false_ne_true
 | int i =>
   obtain ⟨t,rfl⟩:=rx
   cases y with
   | non=>cases ry;exact PySem.EqNone.ne_int_none (ql I q (by simp))
   | int j=>obtain ⟨t',rfl⟩:=ry;exact ne_int (ql I q (congrArg not qjf))
   | str j=>obtain ⟨t',rfl⟩:=ry;exact PySem.EqMixed.ne_int_str (ql I q (by simp))
   | _=>exact absurd (show false=true from hs) Bool.false_ne_true
 | str i =>
   obtain ⟨t,rfl⟩:=rx
   cases y with
   | non=>cases ry;exact PySem.EqNone.ne_str_none (ql I q (by simp))
   | bl j=>cases ry;exact PySem.EqMixed.ne_str_bool (ql I q (by simp))
   | int j=>obtain ⟨t',rfl⟩:=ry;exact PySem.EqMixed.ne_str_int (ql I q (by simp))
   | str j=>obtain ⟨t',rfl⟩:=ry;exact ne_str (ql I q (congrArg not qnr))
   | _=>exact absurd (show false=true from hs) Bool.false_ne_true
 | byt i =>
   obtain ⟨t,rfl⟩:=rx
   cases y with
   | byt j=>obtain ⟨t',rfl⟩:=ry;exact PySem.W.ne_bytes (ql I q (congrArg not qns))
   | _=>exact absurd (show false=true from hs) Bool.false_ne_true
 | _=>cases y <;> exact absurd (show false=true from hs) Bool.false_ne_true
theorem q1m:OpR X (compareOp .Lt) (rI0 fun i j=>.bl (decide (i < j))):=qtl fun _ _ _ _ _ _ _ q=>lt_int q
theorem q1n:OpR X (compareOp .LtE) (rI0 fun i j=>.bl (decide (i≤j))):=qtl fun _ _ _ _ _ _ _ q=>le_int q
theorem q1o:OpR X (compareOp .Gt) (rI0 fun i j=>.bl (decide (j < i))):=qtl fun _ _ _ _ _ _ _ q=>gt_int q
theorem q1p:OpR X (compareOp .GtE) (rI0 fun i j=>.bl (decide (j≤i))):=qtl fun _ _ _ _ _ _ _ q=>ge_int q
theorem qo3:OpR X (compareOp .In) (fun x y H Q=>∃ i j,x=.str i∧y=.str j∧Q (.bl (!(Builtin.Str.occurrences j i 0 j.length 1).isEmpty)) H):=by
 intro pins s σ H x y v u Q I rx ry h
 obtain ⟨i,j,rfl,rfl,q⟩:=h
 obtain ⟨t,rfl⟩:=rx
 obtain ⟨t',rfl⟩:=ry
 exact in_str (ql I q rfl)
theorem qxk:OpR X (compareOp .Is) (fun x y H Q=>y=.non∧Q (.bl (decide (x=.non))) H):=by
 intro pins s σ H x y v u Q I rx ry h
 obtain ⟨rfl,q⟩:=h
 cases ry
 refine is_none_gen (ql I q ?_)
 cases x <;> first
   | (cases rx;rfl)
   | (obtain ⟨t,rfl⟩:=rx;rfl)
theorem qtm:OpR X (compareOp .IsNot) (fun x y H Q=>y=.non∧Q (.bl (!decide (x=.non))) H):=by
 intro pins s σ H x y v u Q I rx ry h
 obtain ⟨rfl,q⟩:=h
 cases ry
 refine isnot_none_gen (ql I q ?_)
 cases x <;> first
   | (cases rx;rfl)
   | (obtain ⟨t,rfl⟩:=rx;rfl)
theorem qjg:OpR X (compareOp .NotIn) (fun x y H Q=>∃ i j,x=.str i∧y=.str j∧Q (.bl (!(!(Builtin.Str.occurrences j i 0 j.length 1).isEmpty))) H):=by
 intro pins s σ H x y v u Q I rx ry h
 obtain ⟨i,j,rfl,rfl,q⟩:=h
 obtain ⟨t,rfl⟩:=rx
 obtain ⟨t',rfl⟩:=ry
 exact notIn_str (ql I q rfl)
theorem OpR.or {f:Value→Value→Sem Value} {r r':R2} (h:OpR X f r) (h':OpR X f r'):OpR X f (fun x y H Q=>r x y H Q∨r' x y H Q):=by
 intro pins s σ H x y v u Q I rx ry q
 rcases q with q | q
 · exact h pins s σ H x y v u Q I rx ry q
 · exact h' pins s σ H x y v u Q I rx ry q
theorem qtn {op:CmpOp} {r:R2} (ho:OpR X (compareOp op) r) (ha:PE X a ta) (hb:PE X b tb) (hm:behindInMarks op b=false):PE X (.Compare a [op] [b] pos) (tOp r ta tb):=by
 intro pins s σ H Q I h
 exact wpAny_Compare1 (qxd ha hb I h fun v u s2 x y H2 I2 rx ry q=>ho pins s2 σ H2 x y v u Q I2 rx ry q) hm
noncomputable def qwb (t:TE):TT:=fun σ H Q=>t σ H fun x H'=>∃ k,x=.bl k∧Q k H'
theorem qto {op:CmpOp} {r:R2} (ho:OpR X (compareOp op) r) (ha:PE X a ta) (hb:PE X b tb) (hm:behindInMarks op b=false):PT X (.Compare a [op] [b] pos) (qwb (tOp r ta tb)):=by
 intro pins s σ H Q I h
 refine wpAny_isTrue_Compare1 (thn (ha pins s σ H _ I h) fun v s1 ⟨x,H1,I1,r1,q1⟩=>thn (hb pins s1 σ H1 _ I1 q1) fun u s2 ⟨y,H2,I2,r2,q2⟩ =>
   thn (ho pins s2 σ H2 x y v u _ I2 r1 r2 q2) fun c s3 ⟨z,H3,I3,r3,k,e,q3⟩=> ?_) hm
 subst e
 cases r3
 exact wpAny_truthy_bool ⟨H3,I3,q3⟩
noncomputable def qml (r r':R2) (ta tb tc:TE):TE:=fun σ H Q=>ta σ H fun x H1=>tb σ H1 fun y H2=>r x y H2 fun z H3=>∃ k,z=.bl k ∧
 (if k=true then tc σ H3 fun w' H4=>r' y w' H4 Q else Q (.bl false) H3)
theorem qqq {op op':CmpOp} {r r':R2} (ho:OpR X (compareOp op) r) (ho':OpR X (compareOp op') r') (ha:PE X a ta) (hb:PE X b tb) (hc:PE X c tc)
   (hm:lastMarks [op,op'] [b,c]=false:=by with_unfolding_all rfl):PE X (.Compare a [op,op'] [b,c] pos) (qml r r' ta tb tc):=by
 intro pins s σ H Q I h
 refine Compare_chain (thn (ha pins s σ H _ I h) fun v s1 ⟨x,H1,I1,r1,q1⟩=>chain_link (thn (hb pins s1 σ H1 _ I1 q1) fun u s2 ⟨y,H2,I2,r2,q2⟩ =>
   thn (ho pins s2 σ H2 x y v u _ I2 r1 r2 q2) fun d s3 ⟨z,H3,I3,r3,k,e,q3⟩=> ?_)) hm
 subst e
 cases r3
 refine wpAny_truthy_bool ?_
 cases k with
 | false=>exact ite_ff ⟨.bl false,H3,I3,rfl,q3⟩
 | true=>exact ite_tt (chain_last (thn (hc pins s3 σ H3 _ I3 q3) fun w' s4 ⟨z',H4,I4,r4,q4⟩=>ho' pins s4 σ H4 y z' u w' Q I4 r2 r4 q4))
theorem qqr {op op':CmpOp} {r r':R2} (ho:OpR X (compareOp op) r) (ho':OpR X (compareOp op') r') (ha:PE X a ta) (hb:PE X b tb) (hc:PE X c tc)
   (hm:lastMarks [op,op'] [b,c]=false:=by with_unfolding_all rfl):PT X (.Compare a [op,op'] [b,c] pos) (qwb (qml r r' ta tb tc)):=by
 intro pins s σ H Q I h
 refine isTrue_chain (thn (ha pins s σ H _ I h) fun v s1 ⟨x,H1,I1,r1,q1⟩=>test_link (thn (hb pins s1 σ H1 _ I1 q1) fun u s2 ⟨y,H2,I2,r2,q2⟩ =>
   thn (ho pins s2 σ H2 x y v u _ I2 r1 r2 q2) fun d s3 ⟨z,H3,I3,r3,k,e,q3⟩=> ?_)) hm
 subst e
 cases r3
 refine wpAny_truthy_bool ?_
 cases k with
 | false =>
   obtain ⟨k',e',q'⟩:=q3
   cases e'
   exact ite_ff ⟨H3,I3,q'⟩
 | true =>
   refine ite_tt (test_last (thn (hc pins s3 σ H3 _ I3 q3) fun w' s4 ⟨z',H4,I4,r4,q4⟩=>thn (ho' pins s4 σ H4 y z' u w' _ I4 r2 r4 q4) fun d' s5 ⟨z2,H5,I5,r5,k2,e2,q5⟩=> ?_))
   subst e2
   cases r5
   exact wpAny_truthy_bool ⟨H5,I5,q5⟩
noncomputable def q1q (K:PySem.W.Frag) (x:V) (H:Hp) (k:Bool):Prop :=
 match x with
 | .non=>k=false
 | .bl b=>k=b
 | .int i=>k=(i != 0)
 | .str y=>y.length≤sizeLine∧k=((y.length:Int) != 0)
 | .byt y=>y.size≤sizeLine∧k=((y.size:Int) != 0)
 | .ref p=>(∃ xs,SqL K H p xs∧k= !xs.isEmpty)∨(∃ xs,SqT K H p xs∧k= !xs.isEmpty)∨∃ kvs,H p=some (.dK kvs)∧k= !kvs.isEmpty
 | _=>False
theorem qmm {κ:Type} {kvs:List (κ × V)} {vs:List (κ × Value)} (r:KV kvs vs):(!vs.isEmpty)= !kvs.isEmpty:=by
 cases r <;> rfl
theorem qgq {xs:List V} {its:List Value} (r:Vals xs its):(!its.toArray.isEmpty)= !xs.isEmpty:=by
 cases r <;> simp
theorem qcv:(sizeLine:Nat) < 2 ^ 63:=by rw[sizeLine_eq];decide
theorem qxl:q1g X (fun x H Q=>∃ k,q1q X.K x H k∧Q k H):=by
 intro pins s σ H x v Q I rx h
 obtain ⟨k,e,q⟩:=h
 have hl:=qcv
 have hs:sizeLine=16777216:=sizeLine_eq
 cases x with
 | non =>
   cases rx
   have e':k=false:=e
   subst e'
   exact truthy_none ⟨H,I,q⟩
 | bl b =>
   cases rx
   have e':k=b:=e
   subst e'
   exact wpAny_truthy_bool ⟨H,I,q⟩
 | int i =>
   obtain ⟨t,rfl⟩:=rx
   have e':k=(i != 0):=e
   subst e'
   exact PySem.P.truthy_int ⟨H,I,q⟩
 | str y =>
   obtain ⟨t,rfl⟩:=rx
   obtain ⟨hy,e'⟩:y.length≤sizeLine∧k=((y.length:Int) != 0):=e
   subst e'
   exact PySem.P.truthy_str (by omega) ⟨H,I.tok _,q⟩
 | byt y =>
   obtain ⟨t,rfl⟩:=rx
   obtain ⟨hy,e'⟩:y.size≤sizeLine∧k=((y.size:Int) != 0):=e
   subst e'
   exact PySem.W.truthy_bytes (by omega) ⟨H,I.tok _,q⟩
 | ref p =>
   cases rx
   have e':(∃ xs,SqL X.K H p xs∧k= !xs.isEmpty)∨(∃ xs,SqT X.K H p xs∧k= !xs.isEmpty)∨∃ kvs,H p=some (.dK kvs)∧k= !kvs.isEmpty:=e
   rcases e' with ⟨xs,hx,e'⟩ | ⟨xs,hx,e'⟩ | ⟨kvs,hx,e'⟩
   · subst e'
     obtain ⟨its,r,pl,hz⟩:=I.list hx
     have hlen:=r.length
     exact wpAny_truthy_list pl.isList (by simp only [List.size_toArray];omega) ⟨H,I.tok _,by rw[qgq r];exact q⟩
   · subst e'
     obtain ⟨its,r,pl,hz⟩:=I.tuple hx
     have hlen:=r.length
     exact truthy_tuple pl (by simp only [List.size_toArray];omega) ⟨H,I.tok _,by rw[qgq r];exact q⟩
   · subst e'
     obtain ⟨hz,hS,vs,r,m⟩:kvs.length≤sizeLine∧(p==sysModules)=false∧∃ vs,KV kvs vs∧s.heap.DictOf (qm X.prog X.w) p vs:=I.hok p _ hx
     have hlen:kvs.length=vs.length:=Paired.length r
     exact wpAny_truthy_dict hS m (by omega) ⟨H,I.tok _,by rw[qmm r];exact q⟩
 | _=>exact(show False from e).elim
theorem qmn:OpR X (binaryOp .Add) (fun x y H Q=>∃ i j,x=.str i∧y=.str j∧i.length+j.length≤sizeLine∧Q (.str (i++j)) H):=by
 intro pins s σ H x y v u Q I rx ry h
 obtain ⟨i,j,rfl,rfl,hz,q⟩:=h
 obtain ⟨t,rfl⟩:=rx
 obtain ⟨t',rfl⟩:=ry
 exact add_str (fun t' tk=>⟨.str (i++j),H,I.tok _,⟨_,rfl⟩,q⟩) hz
theorem vals1 {x:V} {us:List Value} (r:Vals [x] us):∃ u,us=[u]∧RelV x u:=by
 cases r with
 | cons r1 r2=>cases r2;exact⟨_,rfl,r1⟩
theorem vals2 {x y:V} {us:List Value} (r:Vals [x,y] us):∃ u w',us=[u,w']∧RelV x u∧RelV y w':=by
 cases r with
 | cons r1 r2 =>
   cases r2 with
   | cons r3 r4=>cases r4;exact⟨_,_,rfl,r1,r3⟩
theorem qo4 (hc:X.calm=true):qx X (.builtin "max") (fun xs H Q=>∃ i j,xs=[.int i,.int j]∧Q (.int (if j > i then j else i)) H):=by
 intro pins s σ H xs us Q I r h
 obtain ⟨i,j,rfl,q⟩:=h
 obtain ⟨u,w',rfl,⟨t,rfl⟩,⟨t',rfl⟩⟩:=vals2 r
 refine max_two_ints (I.ok.hd hc) fun h' tk k=>⟨_,H,I.kept k,?_,q⟩
 by_cases hj:j > i
 · rw[if_pos hj,if_pos hj];exact⟨_,rfl⟩
 · rw[if_neg hj,if_neg hj];exact⟨_,rfl⟩
theorem qo5 (hc:X.calm=true):qx X (.builtin "min") (fun xs H Q=>∃ i j,xs=[.int i,.int j]∧Q (.int (if j < i then j else i)) H):=by
 intro pins s σ H xs us Q I r h
 obtain ⟨i,j,rfl,q⟩:=h
 obtain ⟨u,w',rfl,⟨t,rfl⟩,⟨t',rfl⟩⟩:=vals2 r
 refine min_two_ints (I.ok.hd hc) fun h' tk k=>⟨_,H,I.kept k,?_,q⟩
 by_cases hj:j < i
 · rw[if_pos hj,if_pos hj];exact⟨_,rfl⟩
 · rw[if_neg hj,if_neg hj];exact⟨_,rfl⟩
theorem qo6:qx X (.type "int") (fun xs H Q=>(∃ i,xs=[.int i]∧Q (.int i) H)∨∃ k,xs=[.bl k]∧Q (.int (if k then 1 else 0)) H):=by
 intro pins s σ H xs us Q I r h
 rcases h with ⟨i,rfl,q⟩ | ⟨k,rfl,q⟩
 · obtain ⟨u,rfl,t,rfl⟩:=vals1 r
   exact call_int_int ⟨.int i,H,I,⟨_,rfl⟩,q⟩
 · obtain ⟨u,rfl,r1⟩:=vals1 r
   cases r1
   exact call_int_bool ⟨.int (if k then 1 else 0),H,I.tok _,⟨_,rfl⟩,q⟩
theorem qjh:qx X (.type "str") (fun xs H Q=>∃ i,xs=[.int i]∧i.natAbs.log2 < 1920∧Q (.str (toString i)) H):=by
 intro pins s σ H xs us Q I r h
 obtain ⟨i,rfl,hz,q⟩:=h
 obtain ⟨u,rfl,t,rfl⟩:=vals1 r
 exact PySem.P.str_of_int hz ⟨.str _,H,I.tok _,⟨_,rfl⟩,q⟩
end
structure qxm (h:Heap) (x dx C:Addr) (mA:Str→Option Value):Prop where
 obj:h.get? x=some (PySem.W.instObj C dx)
 ns:h.Ns1 dx mA
 ne:dx ≠ x
theorem qo7 {h:Heap} {dx:Addr} {mA:Str→Option Value} (n:h.Ns1 dx mA):∃ od,h.get? dx=some od∧∀ name,PySem.W.lookIn name od=some (mA name):=by
 obtain ⟨o,es,ep,ho,hd,hk,_,hm⟩:=n
 refine⟨o,ho,fun name=> ?_⟩
 have e:=hm name
 unfold nsFind findBy at e
 rw[← Array.find?_toList]at e
 unfold PySem.W.lookIn
 rw[hd]
 dsimp only
 split
 · rename_i y q
   rw[q]at e
   exact congrArg some e
 · rename_i q
   rw[q]at e
   have a:es.toList.any (·.refKey)=false:=by
     rw[List.any_eq_false]
     intro y hy
     obtain ⟨z,t,hkey⟩:=hk y (Array.mem_toList_iff.mp hy)
     simp [DictEntry.refKey,hkey]
   have a':¬ es.toList.any (·.refKey)=true:=by rw[a];exact Bool.false_ne_true
   rw[if_neg a']
   exact congrArg some e
theorem qxm.look {h:Heap} {x dx C:Addr} {mA:Str→Option Value} (I:qxm h x dx C mA):∃ od,PySem.W.InstAt h x (PySem.W.instObj C dx) C (some od)∧∀ name,PySem.W.lookIn name od=some (mA name) :=
 let ⟨od,ho,hl⟩:=qo7 I.ns
 ⟨od,⟨I.obj,rfl,rfl,ho⟩,hl⟩
theorem qgm.some_of {v:V} {o:Option Value} (r:qgm (some v) o):∃ u,o=some u∧RelV v u:=by
 cases o with
 | none=>exact(show False from r).elim
 | some u=>exact⟨u,rfl,r⟩
section
variable {P:Program} {w:World} {H H':Hp} {h h':Heap} {a C dx:Addr} {fs fs':List (Str × V)}
theorem qtp (hok:HOk P w H h) (e:H a=some (.ins C dx fs)):∃ mA,qxm h a dx C mA∧(∀ f,qgm (fs.lookup f) (mA f))∧PySem.Within mA (fs.map (·.1))∧fs.length≤1000∧H dx=some (.own a):=by
 obtain ⟨d,z,ne,ob,mA,n,r,q⟩:=(show qw P w H h a (.ins C dx fs) from hok a _ e)
 exact⟨mA,⟨ob,n,ne⟩,r,q,z,d⟩
end
structure Cls (K:PySem.W.Frag) (C:Addr):Prop where
 pg:PySem.W.plainGet K C Str.empty=true
 hd:PySem.W.hasDictIn K C=true
 po:PySem.W.plainOver K C=true
 sa:PySem.W.findIn K (.ref C) "__setattr__"=some (some (.builtin "object.__setattr__"))
theorem Cls.get {K:PySem.W.Frag} {C:Addr} (c:Cls K C) (f:Str):PySem.W.plainGet K C f=true:=c.pg
section
variable {X:Cx} {pins:List (Addr × Obj)} {σ:St} {H:Hp} {s:Shared} {A:Around} {E:Value→Shared→Prop} {Q:Value→Shared→Prop} {c:Value} {b:Bool}
inductive qeh (K:PySem.W.Frag) (H:Hp):V→Value→Prop where
 | non:qeh K H .non (.type "NoneType")
 | bl (x:Bool):qeh K H (.bl x) (.type "bool")
 | int (i:Int):qeh K H (.int i) (.type "int")
 | str (x:Str):qeh K H (.str x) (.type "str")
 | flt (x:UInt64):qeh K H (.flt x) (.type "float")
 | lst {a:Addr} {xs:List V} (e:H a=some (.lst xs)):qeh K H (.ref a) (.type "list")
 | frz {a:Addr} {o:Obj} {xs:List V} (e:H a=some (.frz o (.lst xs))):qeh K H (.ref a) (.type "list")
 | tup {a:Addr} {xs:List V} (e:H a=some (.tup xs)):qeh K H (.ref a) (.type "tuple")
 | dK {a:Addr} {kvs:List (Key × V)} (e:H a=some (.dK kvs)):qeh K H (.ref a) (.type "dict")
 | dT {a:Addr} {kvs:List (List Key × V)} (e:H a=some (.dT kvs)):qeh K H (.ref a) (.type "dict")
 | ins {a C dx:Addr} {fs:List (Str × V)} (e:H a=some (.ins C dx fs)) (cl:Cls K C) (ha:PySem.W.findIn K (.ref C) "__class__"=some (some (.builtin "object.__class__")))
     (hn:PySem.W.specialIn K (.builtin "object.__class__") "__get__"=some (some (.builtin "getset_descriptor.__get__"))) (htk:PySem.W.takesIn K (.builtin "object.__class__")=some true)
     (hm:PySem.W.mroIn K C (.type "object")=some true):qeh K H (.ref a) (.ref C)
theorem qo8 {x:V} {u t:Value} (I:Inv X pins σ H s) (rx:RelV x u) (ty:qeh X.K H x t) (e:PySem.W.kitOne X.K t c=some b) (h:∀ tk,Q (.bool b) { s with toks:=tk }) :
   wpAny (model X.prog X.w) A (call (.builtin "isinstance") [u,c]) Q E s:=by
 cases ty with
 | non=>cases (show u=Value.none from rx);exact PySem.W.kia_one PySem.W.kitx_none I.kIn True.intro e (fun z=>nomatch z) h
 | bl y=>cases (show u=Value.bool y from rx);exact PySem.W.kia_one PySem.W.kitx_bool I.kIn True.intro e (fun z=>nomatch z) h
 | int i=>obtain ⟨t,q⟩:=(show ∃ t,u=Value.int i t from rx);cases q;exact PySem.W.kia_one PySem.W.kitx_int I.kIn True.intro e (fun z=>nomatch z) h
 | str y=>obtain ⟨t,q⟩:=(show ∃ t,u=Value.str y t from rx);cases q;exact PySem.W.kia_one PySem.W.kitx_str I.kIn True.intro e (fun z=>nomatch z) h
 | flt y=>obtain ⟨t,q⟩:=(show ∃ t,u=Value.float y t from rx);cases q;exact PySem.W.kia_one PySem.W.kitx_float I.kIn True.intro e (fun z=>nomatch z) h
 | @lst a xs ea =>
   cases (show u=Value.ref a from rx)
   obtain ⟨_,_,n,_,h1⟩:=(show qw X.prog X.w H s.heap a (.lst xs) from I.hok a _ ea)
   exact PySem.W.kia_one PySem.W.kitx_list I.kIn ⟨_,h1,rfl⟩ e (fun z=>nomatch z) h
 | @frz a ob xs ea =>
   cases (show u=Value.ref a from rx)
   obtain ⟨_,_,_,n,_,h1⟩:=(show qw X.prog X.w H s.heap a (.frz ob (.lst xs)) from I.hok a _ ea)
   exact PySem.W.kia_one PySem.W.kitx_list I.kIn ⟨_,h1,rfl⟩ e (fun z=>nomatch z) h
 | @tup a xs ea =>
   cases (show u=Value.ref a from rx)
   obtain ⟨_,_,_,p⟩:=(show qw X.prog X.w H s.heap a (.tup xs) from I.hok a _ ea)
   obtain ⟨o,h1,h2,_⟩:=p
   exact PySem.W.kia_one PySem.W.kitx_tuple I.kIn ⟨o,h1,h2⟩ e (fun z=>nomatch z) h
 | @dK a kvs ea =>
   cases (show u=Value.ref a from rx)
   obtain ⟨_,_,vs,_,p⟩:=(show qw X.prog X.w H s.heap a (.dK kvs) from I.hok a _ ea)
   obtain ⟨o,es,ep,h1,h2,_⟩:=p
   exact PySem.W.kia_one PySem.W.kitx_dict I.kIn ⟨o,h1,h2.1⟩ e (fun z=>nomatch z) h
 | @dT a kvs ea =>
   cases (show u=Value.ref a from rx)
   obtain ⟨_,_,xs,_,o,es,ep,h1,h2,_⟩:=(show qw X.prog X.w H s.heap a (.dT kvs) from I.hok a _ ea)
   exact PySem.W.kia_one PySem.W.kitx_dict I.kIn ⟨o,h1,h2.1⟩ e (fun z=>nomatch z) h
 | @ins a C dx fs ea cl ha hn htk hm =>
   cases (show u=Value.ref a from rx)
   obtain ⟨mA,O,_⟩:=qtp I.hok ea
   obtain ⟨od,J,_⟩:=O.look
   exact PySem.W.kia_one (PySem.W.kitx_own (cl.get _) cl.hd ha hn htk hm) I.kIn J e (fun z=>nomatch z) h
end
structure qam (k:Nat) (A:Around):Prop where
 hd:A.handled=none
 dp:A.depth+3 * k+5 < recursionLimit
 un:A.units+16 * k+200 < cLine
theorem qam.mono {j k:Nat} {A:Around} (r:qam k A) (h:j≤k):qam j A:=⟨r.hd,by have:=r.dp;omega,by have:=r.un;omega⟩
theorem qam.deeper {k:Nat} {A:Around} (r:qam (k+1) A) (env:Env):qam k (A.deeper env) :=
 ⟨r.hd,by have:=r.dp;show A.depth+1+3 * k+5 < _;omega,by have:=r.un;show A.units+3+16 * k+200 < _;omega⟩
theorem qmo {A:Around} {C:Addr} {us:List Value} {kw:List (Str × Value)}:(A.under (.builtin "type.__call__" ⟨.ref C::us,kw⟩)).depth=A.depth+1:=by
 first | rfl | simp [Around.under,Code.weight,Code.isCreation,Code.isGuard,Code.isCaller,Code.frames,Code.isFrame,guardIds]
theorem qmp {A:Around} {C:Addr} {us:List Value} {kw:List (Str × Value)}:(A.under (.builtin "type.__call__" ⟨.ref C::us,kw⟩)).units=A.units+1:=by
 first | rfl | simp [Around.under,Code.cUnits,Code.frames,Code.isFrame]
theorem qam.make {k:Nat} {A:Around} (r:qam (k+1) A) (C:Addr) (us:List Value) (kw:List (Str × Value)):qam k (A.under (.builtin "type.__call__" ⟨.ref C::us,kw⟩)) :=
 ⟨r.hd,by have:=r.dp;rw[qmo];omega,by have:=r.un;rw[qmp];omega⟩
theorem qam.depth {k:Nat} {A:Around} (r:qam k A):A.depth < recursionLimit:=by have:=r.dp;omega
theorem qam.units {k:Nat} {A:Around} (r:qam k A):A.units+64 < cLine:=by have:=r.un;omega
noncomputable def qxn:TA:=fun _ H Q=>Q [] H
noncomputable def qqs (ta:TE) (tr:TA):TA:=fun σ H Q=>ta σ H fun x H1=>tr σ H1 fun xs H2=>Q (x::xs) H2
section
variable {X:Cx} {e:Expr} {es:List Expr} {te:TE} {t:TA} {pos:Pos}
theorem qbo:PA X [] qxn:=fun _ _ _ _ H Q I h=>Calls.spliced_nil ⟨[],H,I,.nil,h⟩
theorem qq (ha:PE X e te) (hr:PA X es t) (hs:starEach (e::es) X.env=(false,eval e X.env)::starEach es X.env:=by rfl):PA X (e::es) (qqs te t):=by
 intro pos pins s σ H Q I h
 rw[hs]
 show wpAny _ _ (spliced ((false,eval e X.env)::backTo pos (starEach es X.env))) _ _ s
 refine Calls.spliced_cons (thn (ha pins s σ H _ I h) fun u s1 ⟨x,H1,I1,r1,q1⟩=> ?_)
 exact thn (hr pos pins s1 σ H1 _ I1 q1) fun us s2 ⟨xs,H2,I2,r2,q2⟩=>⟨x::xs,H2,I2,.cons r1 r2,q2⟩
noncomputable def q4m (t:TA):TE:=fun σ H Q=>t σ H fun xs H1=>xs.length≤sizeLine∧∀ p,H1 p=none→Q (.ref p) (upd H1 p (.tup xs))
noncomputable def qxo (t:TA):TE:=fun σ H Q=>t σ H fun xs H1=>xs.length≤sizeLine∧∀ p,H1 p=none→Q (.ref p) (upd H1 p (.lst xs))
theorem qxp {x1} (h:PA X es t):PE X (.Tuple es x1 pos) (q4m t):=by
 intro pins s σ H Q I hq
 refine wpAny_Tuple_spliced (thn (h pos pins s σ H _ I hq) fun us s1 ⟨xs,H1,I1,r,z,q⟩=>⟨by rw[← r.length];exact z,?_⟩)
 have hf:H1 s1.heap.objs.size=none:=I1.hok.fresh (Nat.le_refl _)
 refine⟨.ref s1.heap.objs.size,upd H1 s1.heap.objs.size (.tup xs),I1.laid (t':=s1.toks) (fun b u e=>Heap.get?_push_of_some _ e) (Nat.le_refl _) ?_,rfl,q _ hf⟩
 exact⟨z,us,r,⟨_,Heap.get?_push_size _ rfl,rfl,_,rfl⟩⟩
theorem qmq (h:PA X es t):PE X (.List es pos) (qxo t):=by
 intro pins s σ H Q I hq
 refine wpAny_List_spliced (thn (h pos pins s σ H _ I hq) fun us s1 ⟨xs,H1,I1,r,z,q⟩=>⟨by rw[← r.length];exact z,?_⟩)
 have hf:H1 s1.heap.objs.size=none:=I1.hok.fresh (Nat.le_refl _)
 refine⟨.ref s1.heap.objs.size,upd H1 s1.heap.objs.size (.lst xs),I1.laid (t':=s1.toks) (fun b u e=>Heap.get?_push_of_some _ e) (Nat.le_refl _) ?_,rfl,q _ hf⟩
 exact⟨z,us,0,r,Heap.get?_push_size _ rfl⟩
end
noncomputable abbrev Sp:=List V→Hp→VK→XK→Prop
noncomputable abbrev CXT:=List Env→Hp→Shared→XK→Value→Shared→Prop
structure qmr (P:Program) (w:World) (K:PySem.W.Frag) (mg:Str→Option Value) (base:Heap) (A:Around) (outer:List Env) (s:Shared) (H:Hp):Prop where
 frames:A.frames=some outer
 mod:Mod K mg base
 bs:∀ b o,base.get? b=some o→s.heap.get? b=some o∧H b=none
 bsz:base.objs.size≤s.heap.objs.size
 funs:s.heap.FunFrames base outer
 frf:∀ b ∈ frs outer,H b=none
 hok:HOk P w H s.heap
 bare:AllBare s.gens
noncomputable def CE (outer:List Env) (P:Program) (w:World) (H:Hp) (s:Shared) (Q:VK) (u:Value) (s':Shared):Prop :=
 ∃ v H',s'.os=s.os∧AllBare s'.gens∧Un (frs outer) [] H H' s.heap s'.heap∧HOk P w H' s'.heap∧RelV v u∧Q v H'
noncomputable def CR (CX:CXT) (outer:List Env) (P:Program) (w:World) (H:Hp) (s:Shared) (Q:VK) (E:XK) (r:Result) (s':Shared):Prop :=
 match r with
 | .ok (.ret u)=>CE outer P w H s Q u s'
 | .ok _=>False
 | .error e=>CX outer H s E e s'
structure qap (P:Program) (w:World) (K:PySem.W.Frag) (mg:Str→Option Value) (base:Heap) (CX:CXT) (k:Nat) (f:Addr) (fd:FuncData) (ps:List Str) (sp:Sp):Prop where
 len:∀ vs H Q E,sp vs H Q E→vs.length=ps.length
 run:∀ (A:Around) (outer:List Env) (s:Shared) (H:Hp) (args:Args) (us:List Value) (vs:List V) (Q:VK) (E:XK),qam k A→qmr P w K mg base A outer s H→BindsTo s fd args (ps.zip us)→Vals vs us→sp vs H Q E →
   codeAny (model P w) A (.call (.ref f) args) (CR CX outer P w H s Q E) s
theorem qap.mono {P:Program} {w:World} {K:PySem.W.Frag} {mg:Str→Option Value} {base:Heap} {CX:CXT} {j k:Nat} {f:Addr} {fd:FuncData} {ps:List Str} {sp:Sp} (F:qap P w K mg base CX j f fd ps sp) (h:j≤k) :
   qap P w K mg base CX k f fd ps sp:=⟨F.len,fun A outer s H args us vs Q E hr=>F.run A outer s H args us vs Q E (hr.mono h)⟩
theorem qmr.make {P:Program} {w:World} {K:PySem.W.Frag} {mg:Str→Option Value} {base:Heap} {A:Around} {outer:List Env} {s:Shared} {H:Hp} (e:qmr P w K mg base A outer s H) (C:Addr) (us:List Value) (kw:List (Str × Value)) :
   qmr P w K mg base (A.under (.builtin "type.__call__" ⟨.ref C::us,kw⟩)) outer s H:=⟨by first | exact e.frames | (simpa [Around.under,Code.envs,Code.isFrame,pushEnvs]using e.frames),e.mod,e.bs,e.bsz,e.funs,e.frf,e.hok,e.bare⟩
section
variable {X:Cx} {pins:List (Addr × Obj)} {σ:St} {H:Hp} {s s':Shared}
theorem Inv.env0 (I:Inv X pins σ H s):qmr X.prog X.w X.K X.mg X.base X.A X.stack s H :=
 ⟨I.ok.frames,I.ok.mod,I.bs,Nat.le_trans I.ok.bsz I.sz,I.stack,I.stkFree,I.hok,I.bare⟩
theorem Inv.after {Q:VK} {u:Value} (I:Inv X pins σ H s) (h:CE X.stack X.prog X.w H s Q u s'):EP X pins σ Q u s':=by
 obtain ⟨v,H',os,bare,un,hok,r,q⟩:=h
 obtain ⟨hh,g,d,t,os'⟩:=s'
 obtain rfl:os'=s.os:=os
 exact⟨v,H',I.call (h':=hh) (g':=g) (d':=d) (t':=t) (ch:=[]) un hok bare (fun b z=>absurd z (by simp)),r,q⟩
end
noncomputable def qnt (sp:Sp) (dvs:List V) (E:XK) (t:TA):TE:=fun σ H Q=>t σ H fun vs H1=>sp (vs++dvs) H1 Q E
noncomputable def Binds (K:PySem.W.Frag) (fd:FuncData) (ps:List Str) (ds:List Value):Prop :=
 ∀ (s:Shared) (us:List Value),K.In s.heap→(us++ds).length=ps.length→BindsTo s fd ⟨us,[]⟩ (ps.zip (us++ds))
theorem Binds.all {K:PySem.W.Frag} {fd:FuncData} {ps:List Str} (h:∀ us:List Value,us.length=ps.length→bindArgs fd ⟨us,[]⟩=pure (ps.zip us)):Binds K fd ps []:=fun s us _ hl=>by
 rw[List.append_nil]at hl ⊢
 exact .of_eq (h us hl)
noncomputable def Passes (CX:CXT) (X:Cx) (E:XK):Prop:=∀ (pins:List (Addr × Obj)) (σ:St) (H:Hp) (s:Shared) (e:Value) (s':Shared),Inv X pins σ H s→CX X.stack H s E e s'→X.xe e s'
section
variable {X:Cx} {CX:CXT} {k:Nat} {f C:Addr} {fd:FuncData} {ps:List Str} {sp:Sp} {dvs:List V} {ds:List Value} {E:XK} {x m:Str} {p pos apos:Pos} {e o:Expr} {es:List Expr} {ta:TE} {t:TA}
theorem qms {pins:List (Addr × Obj)} {σ:St} {H:Hp} {s:Shared} {Q:VK} {us:List Value} {vs:List V} (F:qap X.prog X.w X.K X.mg X.base CX k f fd ps sp) (hr:qam k X.A) (hb:Binds X.K fd ps ds) (hd:Vals dvs ds) (hx:Passes CX X E)
   (I:Inv X pins σ H s) (r:Vals vs us) (h:sp (vs++dvs) H Q E):wpAny (model X.prog X.w) X.A (call (.ref f) us) (EP X pins σ Q) X.xe s:=by
 have r2:Vals (vs++dvs) (us++ds):=r.append hd
 have hl:(us++ds).length=ps.length:=by rw[← r2.length];exact F.len _ _ _ _ h
 refine wpAny_call (codeAny_mono (F.run X.A X.stack s H ⟨us,[]⟩ (us++ds) (vs++dvs) Q E hr I.env0 (hb s us I.kIn hl) r2 h) fun r s' hq=> ?_)
 cases r with
 | error e=>exact hx pins σ H s e s' I hq
 | ok fl =>
   cases fl with
   | ret u=>exact I.after hq
   | next=>exact False.elim hq
   | brk=>exact False.elim hq
   | cont=>exact False.elim hq
theorem qnu (F:qap X.prog X.w X.K X.mg X.base CX k f fd ps sp) (hr:qam k X.A) (hg:Gl X x) (hm:X.mg x=some (.ref f)) (hk:PySem.W.keepIn X.K (.ref f)=true) (hb:Binds X.K fd ps ds) (hd:Vals dvs ds) (hx:Passes CX X E)
   (ha:PA X (e::es) t) (hdb:(x==("__debug__":Str))=false:=by decide) (he:starEach (e::es) X.env=(false,eval e X.env)::starEach es X.env:=by rfl) (hpl:(backTo pos (starEach es X.env)).any (·.1)=false:=by rfl) :
   PE X (.Call (.Name x p) (e::es) [] pos) (qnt sp dvs E t):=by
 intro pins s σ H Q I h
 refine wpAny_Call_Name_kw (qbi I hg hm ?_ hdb)
 refine PySem.W.callWith_K (h₀:=X.base) I.ok.mod.kin hk (thn (ha pos pins s σ H _ I h) fun us s1 ⟨vs,H1,I1,r,q⟩=>⟨I1.kIn,?_⟩) he hpl
 exact qms F hr hb hd hx I1 r q
theorem qqt (F:qap X.prog X.w X.K X.mg X.base CX k f fd ps sp) (hr:qam k X.A) (hg:Gl X x) (hm:X.mg x=some (.ref f)) (hk:PySem.W.keepIn X.K (.ref f)=true) (hb:Binds X.K fd ps ds) (hd:Vals dvs ds) (hx:Passes CX X E)
   (hdb:(x==("__debug__":Str))=false:=by decide):PE X (.Call (.Name x p) [] [] pos) (qnt sp dvs E qxn):=by
 intro pins s σ H Q I h
 refine wpAny_Call_Name_kw (qbi I hg hm ?_ hdb)
 exact PySem.W.callWith_K0 I.kIn hk (qms (us:=[]) F hr hb hd hx I .nil h)
end
structure qaf (N P:List Str) (sc:Scope):Prop where
 kind:sc.kind=.function
 co:sc.isCoroutine=false
 gen:sc.isGenerator=false
 nd:N.Nodup
 pre:N.take P.length=P
 par:∀ x ∈ P,sc.names.lookup x=some .local∨sc.names.lookup x=some .cell
 nofree:∀ y ∈ sc.names,y.2 ≠ .free
theorem qil {kindOf:Str→Option NameKind} {x:Str}:∀ {binds:List (Str × Value)} {m:Str→Option Value},(∀ v,(x,v) ∉ binds)→bindL kindOf binds m x=m x
 | [],_,_=>rfl
 | (n,v)::r,m,h=>by
   unfold bindL
   rw[qil fun w hw=>h w (List.mem_cons_of_mem _ hw)]
   split
   · have:x ≠ n:=by rintro rfl;exact h v List.mem_cons_self
     simp [this]
   · rfl
theorem qim {kindOf:Str→Option NameKind} {x:Str}:∀ {binds:List (Str × Value)} {m:Str→Option Value},(∀ v,(x,v) ∉ binds)→bindC kindOf binds m x=m x
 | [],_,_=>rfl
 | (n,v)::r,m,h=>by
   unfold bindC
   rw[qim fun w hw=>h w (List.mem_cons_of_mem _ hw)]
   split
   · rfl
   · have:x ≠ n:=by rintro rfl;exact h v List.mem_cons_self
     simp [this]
theorem qin {kindOf:Str→Option NameKind} {x:Str} {v:Value}:∀ {P:List Str} {vs:List Value} {i:Nat} {m:Str→Option Value},P.Nodup→P[i]? =some x→vs[i]? =some v→kindOf x=some .local →
   bindL kindOf (P.zip vs) m x=some v
 | [],_,_,_,_,h,_,_=>by simp at h
 | _::_,[],_,_,_,_,h,_=>by simp at h
 | p::P,w::vs,0,m,nd,h1,h2,hk=>by
   simp at h1 h2;subst h1;subst h2
   show bindL kindOf ((p,w)::P.zip vs) m p=_
   unfold bindL
   rw[qil fun v hv=>(List.nodup_cons.mp nd).1 (List.of_mem_zip hv).1,if_pos hk]
   simp
 | p::P,w::vs,i+1,m,nd,h1,h2,hk=>by
   show bindL kindOf ((p,w)::P.zip vs) m x=_
   unfold bindL
   exact qin (i:=i) (List.nodup_cons.mp nd).2 (by simpa using h1) (by simpa using h2) hk
theorem qio {kindOf:Str→Option NameKind} {x:Str} {v:Value}:∀ {P:List Str} {vs:List Value} {i:Nat} {m:Str→Option Value},P.Nodup→P[i]? =some x→vs[i]? =some v→kindOf x ≠ some .local →
   bindC kindOf (P.zip vs) m x=some v
 | [],_,_,_,_,h,_,_=>by simp at h
 | _::_,[],_,_,_,_,h,_=>by simp at h
 | p::P,w::vs,0,m,nd,h1,h2,hk=>by
   simp at h1 h2;subst h1;subst h2
   show bindC kindOf ((p,w)::P.zip vs) m p=_
   unfold bindC
   rw[qim fun v hv=>(List.nodup_cons.mp nd).1 (List.of_mem_zip hv).1,if_neg hk]
   simp
 | p::P,w::vs,i+1,m,nd,h1,h2,hk=>by
   show bindC kindOf ((p,w)::P.zip vs) m x=_
   unfold bindC
   exact qio (i:=i) (List.nodup_cons.mp nd).2 (by simpa using h1) (by simpa using h2) hk
noncomputable def start (N:List Str) (vs:List V):St:=vs.map some++List.replicate (N.length - vs.length) none
noncomputable def qay (CX:CXT) (P:Program) (w:World) (K:PySem.W.Frag) (mg:Str→Option Value) (base:Heap) (N:List Str) (qual:Str) (scope:Scope) (f:Addr) (cd:Value) (A:Around) (outer:List Env) (s:Shared) (H:Hp) (E:XK):Cx where
 prog:=P
 w:=w
 K:=K
 mg:=mg
 base:=base
 A:=A.deeper (envOfC qual scope s.heap.objs.size f cd)
 N:=N
 s₀:=s
 H₀:=H
 env:=envOfC qual scope s.heap.objs.size f cd
 outer:=outer
 stack:=envOfC qual scope s.heap.objs.size f cd::outer
 ex:=[]
 calm:=true
 fn:=fun _=>true
 pn:=[]
 xe:=fun e s'=>wpAny (model P w) (A.deeper (envOfC qual scope s.heap.objs.size f cd)) (leaving (envOfC qual scope s.heap.objs.size f cd) e) (fun _ s''=>CX outer H s E e s'') (fun e' s''=>CX outer H s E e' s'') s'
theorem qk1 {sc:Scope} {n:Nat} {x:Str} (h:sc.names.lookup x=some .cell):∃ c,(cellsFrom n sc.names []).lookup x=some c:=by
 have q:=PySem.W.cellsFrom_some sc.names n [] (.inl h)
 exact Option.isSome_iff_exists.mp q
theorem qo9 {CX:CXT} {P:Program} {w:World} {K:PySem.W.Frag} {mg:Str→Option Value} {base:Heap} {N ps:List Str} {qual:Str} {scope:Scope} {f:Addr} {cd:Value} {A:Around} {outer:List Env} {s s1:Shared} {H:Hp} {E:XK} {us:List Value} {vs:List V}
   (S:qaf N ps scope) (hd:A.handled=none) (e0:qmr P w K mg base A outer s H) (hl:vs.length=ps.length) (r:Vals vs us)
   (x:InCallC s s.heap.objs.size (bindL (envOfC qual scope s.heap.objs.size f cd).kindOf (ps.zip us) fun _=>none) (cellsFrom (s.heap.objs.size+1) scope.names []) (bindC (envOfC qual scope s.heap.objs.size f cd).kindOf (ps.zip us) fun _=>none) s1) :
   Inv (qay CX P w K mg base N qual scope f cd A outer s H E) [] (start N vs) H s1:=by
 have hpl:ps.length≤N.length:=by have:=congrArg List.length S.pre;rw[List.length_take]at this;omega
 obtain ⟨h1,tk,rfl,hk⟩:=x.done
 have noA:∀ b:Addr,b ∉ (qay CX P w K mg base N qual scope f cd A outer s H E).ex:=fun b z=>absurd (show b ∈ ([]:List Addr) from z) (by simp)
 refine⟨⟨e0.mod,S.kind,rfl,rfl,Nat.le_refl _,fun y z c h1 h2=> ?_,fun y hy=> ?_,fun y c _ h=> ?_,fun _=>hd,Around.frames_deeper e0.frames,.inr ⟨rfl,rfl⟩,fun b z=>absurd z (noA b),e0.bs,e0.bsz,fun b _ _=>noA b,fun b z=>absurd z (noA b),e0.funs,e0.frf⟩,
   rfl,e0.bare,Un.kept hk,⟨_,x.toInCall.ns,fun i y v h1 h2 h3=> ?_⟩,fun y c h=>⟨_,x.cell y c h⟩,e0.hok.fresh (Nat.le_refl _),fun y c h=> ?_,fun p hp=>absurd (show p ∈ ([]:List (Addr × Obj)) from hp) (by simp),e0.hok.kept hk,?_⟩
 · exact name_of_addr x.apart (PySem.mem_of_lookup h1) (PySem.mem_of_lookup h2)
 · have hy:scope.names.lookup y=some .cell∨scope.names.lookup y=some .free:=hy
   rcases hy with hy | hy
   · exact qk1 hy
   · exact absurd rfl (S.nofree _ (PySem.mem_of_lookup hy))
 · exact Nat.le_of_lt (x.above y c (PySem.mem_of_lookup h))
 · have hi:i < vs.length:=by
     unfold start at h2
     by_cases hi:i < vs.length
     · exact hi
     · rw[List.getElem?_append_right (by simpa using hi)]at h2
       rw[List.getElem?_replicate]at h2
       split at h2 <;> cases h2
   have ha:vs[i]? =some v:=by
     unfold start at h2
     rw[List.getElem?_append_left (by simpa using hi),List.getElem?_map]at h2
     cases e:vs[i]? with
     | none=>rw[e]at h2;cases h2
     | some a=>rw[e]at h2;cases h2;rfl
   obtain ⟨u,hu,rv⟩:=r.get ha
   have hp:ps[i]? =some y:=by
     rw[← S.pre,List.getElem?_take_of_lt (by omega)];exact h1
   have ndP:ps.Nodup:=by rw[← S.pre];exact S.nd.sublist (List.take_sublist _ _)
   refine⟨u,rv,?_⟩
   rcases S.par y (List.mem_of_getElem? hp)with k | k
   · exact .inl ⟨k,qin ndP hp hu k⟩
   · obtain ⟨c,e⟩:=qk1 (n:=s.heap.objs.size+1) k
     refine .inr ⟨.inl k,c,e,?_⟩
     have q:=x.cell y c e
     rw[qio ndP hp hu (by show scope.names.lookup y ≠ _;rw[k];decide)]at q
     exact q
 · exact e0.hok.fresh (Nat.le_of_lt (x.above y c (PySem.mem_of_lookup h)))
 · unfold start
   show _=N.length
   rw[List.length_append,List.length_map,List.length_replicate]
   omega
theorem qnv {CX:CXT} {P:Program} {w:World} {K:PySem.W.Frag} {mg:Str→Option Value} {base:Heap} {k:Nat} {f:Addr} {name qual:Str} {params:Arguments} {body:List Stmt} {scope:Scope} {dV kV doc pm cdv ct oc:Value} {an od:Option Addr}
   {osl:Array (Option Value)} {N ps:List Str} {sp:Sp} (lk:K.lookup f=some ⟨oc,od,.func (PySem.W.fnOf name qual params body scope dV kV doc pm an cdv ct),osl⟩) (hcd:PySem.W.codeIn K cdv qual=true) (S:qaf N ps scope)
   (len:∀ vs H Q E,sp vs H Q E→vs.length=ps.length)
   (hbody:∀ (A:Around) (outer:List Env) (s:Shared) (H:Hp) (vs:List V) (Q:VK) (E:XK),qam k (A.deeper (envOfC qual scope s.heap.objs.size f cdv))→sp vs H Q E →
     ∃ t,PSs (qay CX P w K mg base N qual scope f cdv A outer s H E) body t∧t { nx:=fun _ H'=>Q .non H',rt:=Q } (start N vs) H) :
   qap P w K mg base CX (k+1) f (PySem.W.fnOf name qual params body scope dV kV doc pm an cdv ct) ps sp:=by
 refine⟨len,fun A outer s H args us vs Q E hr e0 hb r hsp=> ?_⟩
 have hl:=len _ _ _ _ hsp
 have KX:K.In s.heap:=e0.mod.kin.keeps fun b o e=>(e0.bs b o e).1
 have lim:s.heap.NoLimit:=e0.mod.nolimit.keeps fun b o e=>(e0.bs b o e).1
 have hkind:∀ y ∈ ps.zip us,scope.names.lookup y.1=some .local∨(scope.names.lookup y.1=some .cell∧((cellsFrom (s.heap.objs.size+1) scope.names []).lookup y.1).isSome=true):=fun ⟨n,v⟩ hy=>by
   rcases S.par n (List.of_mem_zip hy).1 with q | q
   · exact .inl q
   · exact .inr ⟨q,PySem.W.cellsFrom_some _ _ _ (.inl q)⟩
 refine codeAny_call_function hr.depth (KX _ _ lk) rfl S.co S.gen rfl (PySem.W.codeRec_of KX hcd) (hb _ _ _ _ ?_)
 refine wpAny_newFunctionEnv_cells S.kind hkind fun env he s1 x=> ?_
 subst he
 refine⟨lim.keeps x.toInCall.keep,codeAny_func ?_⟩
 obtain ⟨t,ht,hq⟩:=hbody A outer s H vs Q E (hr.deeper _) hsp
 have I:Inv (qay CX P w K mg base N qual scope f cdv A outer s H E) [] (start N vs) H s1:=qo9 S hr.hd e0 hl r x
 refine wpAny_mono (ht [] s1 (start N vs) H _ I hq) (fun fl s' hs=> ?_) fun e s' hs=>hs
 have fin:∀ {σ':St} {H':Hp} {v:V} {u:Value},Inv (qay CX P w K mg base N qual scope f cdv A outer s H E) [] σ' H' s'→RelV v u→Q v H'→CE outer P w H s Q u s' :=
   fun {σ' H' v u} J rv q=>⟨v,H',J.os,J.bare,J.base,J.hok,rv,q⟩
 cases fl with
 | ret u =>
   obtain ⟨v,σ',H',J,rv,q⟩:=hs
   exact fin J rv q
 | next =>
   obtain ⟨σ',H',J,q⟩:=hs
   exact fin (v:=V.non) (u:=Value.none) J rfl q
 | brk =>
   obtain ⟨_,_,_,q⟩:=hs
   exact False.elim q
 | cont =>
   obtain ⟨_,_,_,q⟩:=hs
   exact False.elim q
section
variable {X:Cx} {x:Str} {p pos:Pos} {e:Expr} {es:List Expr} {t:TA} {id T:String} {r:List V→Hp→VK→Prop}
noncomputable def tCB (r:List V→Hp→VK→Prop) (t:TA):TE:=fun σ H Q=>t σ H fun vs H1=>r vs H1 Q
theorem qei (hc:qx X (.builtin id) r) (hg:Gl X x) (hm:X.mg x=none) (hv:bootBuiltins x=some (.builtin id)) (ha:PA X (e::es) t) (hn:x ≠ "__name__":=by decide) (hdb:(x==("__debug__":Str))=false:=by decide)
   (he:starEach (e::es) X.env=(false,eval e X.env)::starEach es X.env:=by rfl) (hpl:(backTo pos (starEach es X.env)).any (·.1)=false:=by rfl):PE X (.Call (.Name x p) (e::es) [] pos) (tCB r t):=by
 intro pins s σ H Q I h
 refine wpAny_Call_Name_kw (qcu I hg hm hv ?_ hn hdb)
 exact PyProof.Rows.callWith_builtin1 (thn (ha pos pins s σ H _ I h) fun us s1 ⟨vs,H1,I1,r1,q1⟩=>hc pins s1 σ H1 vs us Q I1 r1 q1) he hpl
theorem qey (hc:qx X (.type T) r) (hg:Gl X x) (hm:X.mg x=none) (hv:bootBuiltins x=some (.type T)) (ha:PA X (e::es) t) (hn:x ≠ "__name__":=by decide) (hdb:(x==("__debug__":Str))=false:=by decide)
   (he:starEach (e::es) X.env=(false,eval e X.env)::starEach es X.env:=by rfl) (hpl:(backTo pos (starEach es X.env)).any (·.1)=false:=by rfl):PE X (.Call (.Name x p) (e::es) [] pos) (tCB r t):=by
 intro pins s σ H Q I h
 refine wpAny_Call_Name_kw (qcu I hg hm hv ?_ hn hdb)
 exact PyProof.Rows.callWith_type1 (thn (ha pos pins s σ H _ I h) fun us s1 ⟨vs,H1,I1,r1,q1⟩=>hc pins s1 σ H1 vs us Q I1 r1 q1) he hpl
end
end L2
namespace HT
open PySem PyProof.Rows
section
variable {prog:Program} {w:World} {A:Around} {E:Value→Shared→Prop} {s:Shared}
theorem cat_tup {t b:Addr} {vs ws:List Value} {Q:Value→Shared→Prop} (ht:IsTup s.heap t vs.toArray) (hb:IsTup s.heap b ws.toArray) (hv:vs ≠ [])
   (h1:ws=[]→Q (.ref t) s) (h2:ws ≠ []→Q (.ref s.heap.objs.size) { s with heap:=s.heap.push { cls:=.type "tuple",data:=.seq (vs++ws).toArray } })
   (hsz:vs.length+ws.length≤sizeLine):wpAny (model prog w) A (binaryOp .Add (.ref t) (.ref b)) Q E s:=by
 obtain ⟨⟨cls,dd,data,sl⟩,ho,hc,n,hd⟩:=id ht
 obtain ⟨⟨cls2,dd2,data2,sl2⟩,ho2,hc2,n2,hd2⟩:=id hb
 simp only at hc hd hc2 hd2
 subst hc hd hc2 hd2
 have e:vs.toArray++ws.toArray=(vs++ws).toArray:=by simp
 by_cases hw:ws=[]
 · exact concat_meets ⟨_,ho,rfl⟩ ⟨_,ho2,rfl⟩ noFill_tuple_add seq_tuple_add PySem.F.slot_tuple_add PySem.F.entry_tuple_add (PySem.F.args_tuple_add_2 _ _)
     (tuple_addW1 t b vs.toArray ws.toArray n n2 dd dd2 sl sl2 (by simpa using hv) (by simp [hw])) ⟨ho,ho2,h1 hw⟩
 · refine concat_meets ⟨_,ho,rfl⟩ ⟨_,ho2,rfl⟩ noFill_tuple_add seq_tuple_add PySem.F.slot_tuple_add PySem.F.entry_tuple_add (PySem.F.args_tuple_add_2 _ _)
     (tuple_addW2 t b vs.toArray ws.toArray n n2 dd dd2 sl sl2 (by simpa using hv) (by simpa using hw) (by rw[List.size_toArray,List.size_toArray];exact hsz)) ⟨ho,ho2,?_⟩
   rw[e]
   exact h2 hw
noncomputable def sIx (n d:Nat):Option Int→Nat
 | none=>d
 | some v=>if v < 0 then (v+(n:Int)).toNat else min v.toNat n
theorem qxq (n d:Nat) (hd:d≤n) (o:Option Int):sIx n d o≤n:=by
 cases o with
 | none=>exact hd
 | some v =>
   show (if v < 0 then (v+(n:Int)).toNat else min v.toNat n)≤n
   by_cases hv:v < 0
   · rw[if_pos hv];omega
   · rw[if_neg hv];exact Nat.min_le_right _ _
theorem qnw (v:Int) (n d:Nat):(if v < 0 then max (v+(n:Int)) 0 else min v (n:Int))=((sIx n d (some v):Nat):Int):=by
 show (if v < 0 then max (v+(n:Int)) 0 else min v (n:Int))=(((if v < 0 then (v+(n:Int)).toNat else min v.toNat n):Nat):Int)
 by_cases hv:v < 0
 · simp only [if_pos hv];omega
 · simp only [if_neg hv];omega
theorem qmt (lo hi:Option Int) (n:Nat):Builtin.Slice.sliceAdjust lo hi 1 (n:Int)=(((sIx n 0 lo:Nat):Int),((sIx n n hi:Nat):Int)):=by
 have h1:¬ ((1:Int) < 0):=by omega
 unfold Builtin.Slice.sliceAdjust
 simp only [h1,if_false]
 refine Prod.ext ?_ ?_
 · cases lo with
   | none=>rfl
   | some v=>exact qnw v n 0
 · cases hi with
   | none=>rfl
   | some v=>exact qnw v n n
theorem qmu (i j:Nat):Builtin.Slice.slicePlaces (i:Int) (j:Int) 1=j - i:=by
 unfold Builtin.Slice.slicePlaces
 have h1:(1:Int) > 0:=by omega
 simp only [h1,if_true,Int.ediv_one]
 split <;> omega
theorem qgr {v:Value} {o:Option Int} {Q:Option Int→Shared→Prop} (p:IsPart v o) (h:Q o s):wpAny (model prog w) A (Builtin.Slice.slicePartIndex v) Q E s:=by
 cases p with
 | none=>exact slicePart_none h
 | int i t=>exact slicePart_int h
theorem qez {sl:Addr} {vl vu:Value} {lo hi:Option Int} {n:Nat} {Q:Int × Int × Nat→Shared→Prop} (hs:s.heap.IsSliceOf sl vl vu .none) (pl:IsPart vl lo) (pu:IsPart vu hi)
   (h:Q (((sIx n 0 lo:Nat):Int),1,sIx n n hi - sIx n 0 lo) s):wpAny (model prog w) A (Builtin.Slice.sliceApplied (.ref sl) (pure (n:Int))) Q E s:=by
 obtain ⟨os,hos,hcs,hds⟩:=id hs
 unfold Builtin.Slice.sliceApplied Builtin.Slice.sliceFields
 refine wpAny_bind (wpAny_bind (wpAny_field hos hds (x:=vl) rfl (wpAny_bind (wpAny_field hos hds (x:=vu) rfl (wpAny_bind (wpAny_field hos hds (x:=.none) rfl (wpAny_pure ?_)))))))
 refine wpAny_bind (slicePart_none ?_)
 show wpAny _ _ (if ((1:Int)==0)=true then _ else _) _ _ s
 rw[if_neg (by decide)]
 refine wpAny_bind (qgr pl (wpAny_bind (qgr pu (wpAny_bind (wpAny_pure ?_)))))
 show wpAny _ _ (match Builtin.Slice.sliceAdjust lo hi 1 (n:Int)with | (lo,hi)=>pure (lo,(1:Int),Builtin.Slice.slicePlaces lo hi 1)) _ _ s
 rw[qmt lo hi n]
 show wpAny _ _ (pure (((sIx n 0 lo:Nat):Int),(1:Int),Builtin.Slice.slicePlaces ((sIx n 0 lo:Nat):Int) ((sIx n n hi:Nat):Int) 1)) _ _ s
 rw[qmu]
 exact wpAny_pure h
theorem qqu (xs:Array Value) (i k:Nat):((List.range k).filterMap fun (m:Nat)=>xs[((i:Int)+(m:Int) * 1).toNat]?).toArray=((xs.toList.drop i).take k).toArray:=by
 have e:(fun (m:Nat)=>xs[((i:Int)+(m:Int) * 1).toNat]?)=fun m=>xs[i+m]? :=by
   funext m
   have:((i:Int)+(m:Int) * 1).toNat=i+m:=by omega
   rw[this]
 rw[e]
 have:=pick_run xs i k
 rw[List.filterMap_map]at this
 have e2:((fun x=>xs[x]?) ∘ fun x=>i+x)=fun m=>xs[i+m]? :=rfl
 rw[e2]at this
 rw[this]
theorem getItem_tuple_cut {t sl:Addr} {items:Array Value} {vl vu:Value} {lo hi:Option Int} {Q:Value→Shared→Prop} (ht:IsTup s.heap t items) (hs:s.heap.IsSliceOf sl vl vu .none) (pl:IsPart vl lo) (pu:IsPart vu hi)
   (hw:¬ (sIx items.size 0 lo=0∧sIx items.size items.size hi=items.size))
   (h:Q (.ref s.heap.objs.size) { s with heap:=s.heap.push { cls:=.type "tuple",data:=.seq ((items.toList.drop (sIx items.size 0 lo)).take (sIx items.size items.size hi - sIx items.size 0 lo)).toArray } })
   (hsz:items.size≤sizeLine):wpAny (model prog w) A (getItem (.ref t) (.ref sl)) Q E s:=by
 have htake:sizeOk (.seq ((items.toList.drop (sIx items.size 0 lo)).take (sIx items.size items.size hi - sIx items.size 0 lo)).toArray):=by
   show ((items.toList.drop (sIx items.size 0 lo)).take (sIx items.size items.size hi - sIx items.size 0 lo)).toArray.size≤sizeLine
   rw[List.size_toArray,List.length_take,List.length_drop,Array.length_toList]
   omega
 have hj:sIx items.size items.size hi≤items.size:=qxq _ _ (Nat.le_refl _) hi
 obtain ⟨os,hos,hcs,hds⟩:=id hs
 have hTs:s.TypeIs (.ref sl) "slice":=⟨os,hos,hcs⟩
 unfold getItem
 try with_reducible refine wpAny_holding ?_
 first | refine wpAny_bind (wpAny_pure ?_) | skip
 refine wpAny_bind (wpAny_sequenceKey ht.typeIs (by decide) ?_)
 refine wpAny_bind (wpAny_callSpecial?_slot (name:=Str.ofString "__getitem__") ht.typeIs PyProof.Rows.slot_tuple_getitem
   (wpAny_call_entry PyProof.Rows.slot_tuple_getitem ht.typeIs entry_tuple_getitem ?_ (args_tuple_getitem _ _)))
 show wpAny _ _ (Builtin.Tuple.tupleItemsOf (.ref t) >>= _) _ _ s
 refine wpAny_bind (tupleItemsOf_ ht ?_)
 refine wpAny_bind (wpAny_typeOf hTs ?_)
 rw[if_pos (by decide)]
 refine wpAny_bind (qez hs pl pu ?_)
 have hno:¬ ((((sIx items.size 0 lo:Nat):Int)==0 && (1:Int)==1 && (sIx items.size items.size hi - sIx items.size 0 lo)==items.size)=true):=by
   intro q
   rw[Bool.and_eq_true,Bool.and_eq_true]at q
   have q1:((sIx items.size 0 lo:Nat):Int)=0:=eq_of_beq q.1.1
   have q2:sIx items.size items.size hi - sIx items.size 0 lo=items.size:=eq_of_beq q.2
   exact hw ⟨by omega,by omega⟩
 show wpAny _ _ (if (((sIx items.size 0 lo:Nat):Int)==0 && (1:Int)==1 && (sIx items.size items.size hi - sIx items.size 0 lo)==items.size)=true then _ else _) _ _ s
 rw[if_neg hno,qqu]
 first
   | exact wpAny_bind (m:=Builtin.Tuple.tupleExact _) (wpAny_newObj_type (wpAny_pure ⟨_,rfl,wpAny_pure h⟩) htake)
   | exact wpAny_bind (m:=Builtin.Tuple.tupleExact _) (wpAny_newObj_type (wpAny_bind (wpAny_pure (wpAny_pure ⟨_,rfl,wpAny_pure h⟩))) htake)
   | exact wpAny_bind (wpAny_bind (m:=Builtin.Tuple.tupleExact _) (wpAny_newObj_type (wpAny_pure (wpAny_pure ⟨_,rfl,wpAny_pure h⟩)) htake))
   | exact wpAny_bind (wpAny_bind (m:=Builtin.Tuple.tupleExact _) (wpAny_newObj_type (wpAny_pure ⟨_,rfl,wpAny_pure h⟩) htake))
end
end HT
namespace L2
open PySem PySem.Spec PyProof.Rows
noncomputable abbrev TO:=St→Hp→(Option Int→Hp→Prop)→Prop
noncomputable def PO (X:Cx) (e:Option Expr) (t:TO):Prop :=
 ∀ (pins:List (Addr × Obj)) (s:Shared) (σ:St) (H:Hp) (Q:Option Int→Hp→Prop),Inv X pins σ H s→t σ H Q →
   wpAny (model X.prog X.w) X.A (evalPart e X.env) (fun u s'=>∃ o H',Inv X pins σ H' s'∧IsPart u o∧Q o H') X.xe s
noncomputable def qtq:TO:=fun _ H Q=>Q none H
noncomputable def q1r (t:TE):TO:=fun σ H Q=>t σ H fun x H1=>∃ i,x=.int i∧Q (some i) H1
section
variable {X:Cx} {e:Expr} {te:TE} {lo hi:Option Expr} {tl th:TO} {pos p2:Pos}
theorem qnx:PO X none qtq:=by
 intro pins s σ H Q I h
 rw[evalPart_none]
 exact wpAny_pure ⟨none,H,I,.none,h⟩
theorem qny (h:PE X e te):PO X (some e) (q1r te):=by
 intro pins s σ H Q I hw
 rw[evalPart_some]
 refine thn (h pins s σ H _ I hw) fun u s1 ⟨x,H1,I1,r1,q1⟩=> ?_
 obtain ⟨i,rfl,q⟩:=q1
 obtain ⟨t,rfl⟩:=r1
 exact⟨some i,H1,I1,.int i t,q⟩
noncomputable def SlR (X:Cx) (r:V→Option Int→Option Int→Hp→VK→Prop):Prop :=
 ∀ (pins:List (Addr × Obj)) (s:Shared) (σ:St) (H:Hp) (x:V) (v vl vu:Value) (lo hi:Option Int) (sl:Addr) (Q:VK),Inv X pins σ H s→RelV x v→s.heap.IsSliceOf sl vl vu .none→IsPart vl lo→IsPart vu hi→r x lo hi H Q →
   ∃ T id,typeLookup (.type T) "__getitem__"=pure (some (.builtin id))∧s.TypeIs v T∧wpAny (model X.prog X.w) X.A (getItem v (.ref sl)) (EP X pins σ Q) X.xe s
theorem SlR.or {r r':V→Option Int→Option Int→Hp→VK→Prop} (h:SlR X r) (h':SlR X r'):SlR X (fun x lo hi H Q=>r x lo hi H Q∨r' x lo hi H Q):=by
 intro pins s σ H x v vl vu lo hi sl Q I rx hs pl pu q
 rcases q with q | q
 · exact h pins s σ H x v vl vu lo hi sl Q I rx hs pl pu q
 · exact h' pins s σ H x v vl vu lo hi sl Q I rx hs pl pu q
noncomputable def tSl (r:V→Option Int→Option Int→Hp→VK→Prop) (te:TE) (tl th:TO):TE:=fun σ H Q=>te σ H fun x H1=>tl σ H1 fun l H2=>th σ H2 fun u H3=>r x l u H3 Q
theorem qk2 {r:V→Option Int→Option Int→Hp→VK→Prop} (hr:SlR X r) (he:PE X e te) (hl:PO X lo tl) (hu:PO X hi th):PE X (.Subscript e (.Slice lo hi none p2) pos) (tSl r te tl th):=by
 intro pins s σ H Q I h
 refine Subscript_ (thn (he pins s σ H _ I h) fun v s1 ⟨x,H1,I1,r1,q1⟩=> ?_)
 refine wpAny_Slice (thn (hl pins s1 σ H1 _ I1 q1) fun vl s2 ⟨l,H2,I2,pl,q2⟩=>thn (hu pins s2 σ H2 _ I2 q2) fun vu s3 ⟨u,H3,I3,pu,q3⟩=> ?_)
 rw[evalPart_none]
 refine wpAny_pure ?_
 have I4:Inv X pins σ H3 { s3 with heap:=s3.heap.push { cls:=.type "slice",data:=.fields #[vl,vu,.none] } }:=I3.kept (t':=s3.toks) fun b ob q=>Heap.get?_push_of_some _ q
 obtain ⟨T,id,hT,ht,hg⟩:=hr pins { s3 with heap:=s3.heap.push { cls:=.type "slice",data:=.fields #[vl,vu,.none] } } σ H3 x v vl vu l u s3.heap.objs.size Q I4 r1 (Heap.IsSliceOf.new ..) pl pu q3
 show wpAny (model X.prog X.w) X.A (subscriptTail e (.Slice lo hi none p2) v (.ref s3.heap.objs.size)) (EP X pins σ Q) X.xe { s3 with heap:=s3.heap.push { cls:=.type "slice",data:=.fields #[vl,vu,.none] } }
 exact tail_any (ops:=[.ref s3.heap.objs.size,v]) ht hT hg (by with_unfolding_all rfl)
noncomputable def qf5 (xs:List V) (lo hi:Option Int):List V:=(xs.drop (HT.sIx xs.length 0 lo)).take (HT.sIx xs.length xs.length hi - HT.sIx xs.length 0 lo)
theorem qfo (xs:List V) (lo hi:Option Int):(qf5 xs lo hi).length≤xs.length:=by
 unfold qf5
 rw[List.length_take,List.length_drop]
 omega
noncomputable def q4n (K:PySem.W.Frag):V→Option Int→Option Int→Hp→VK→Prop:=fun x lo hi H Q=>∃ a xs,x=.ref a∧SqT K H a xs ∧
 ¬ (HT.sIx xs.length 0 lo=0∧HT.sIx xs.length xs.length hi=xs.length)∧∀ p,H p=none→Q (.ref p) (upd H p (.tup (qf5 xs lo hi)))
theorem qxr:SlR X (q4n X.K):=by
 intro pins s σ H x v vl vu lo hi sl Q I rx hs pl pu h
 obtain ⟨a,xs,rfl,hx,hw,q⟩:=h
 cases rx
 obtain ⟨its,r,ht,hz⟩:=I.tuple hx
 have hlen:its.toArray.size=xs.length:=by rw[List.size_toArray];exact r.length.symm
 refine⟨"tuple",_,PyProof.Rows.slot_tuple_getitem.lookup,ht.typeIs,?_⟩
 refine HT.getItem_tuple_cut ht hs pl pu (by rw[hlen];exact hw) ?_ (by rw[hlen];exact hz)
 rw[hlen]
 refine⟨.ref s.heap.objs.size,_,I.laid (t':=s.toks) (o:=.tup (qf5 xs lo hi)) (fun b ob q=>Heap.get?_push_of_some _ q) (Nat.le_refl _) ?_,rfl,q _ (I.hok.fresh (Nat.le_refl _))⟩
 exact⟨Nat.le_trans (qfo xs lo hi) hz,_,(r.drop (HT.sIx xs.length 0 lo)).take (HT.sIx xs.length xs.length hi - HT.sIx xs.length 0 lo),IsTup.new _ _⟩
noncomputable def q1s (K:PySem.W.Frag):R2:=fun x y H Q=>∃ a b xs ys,x=.ref a∧y=.ref b∧SqT K H a xs∧SqT K H b ys∧xs ≠ []∧xs.length+ys.length≤sizeLine ∧
 (ys=[]→Q (.ref a) H)∧(ys ≠ []→∀ p,H p=none→Q (.ref p) (upd H p (.tup (xs++ys))))
theorem Vals.nil_iff {xs:List V} {us:List Value} (r:Vals xs us):us=[]↔xs=[]:=by
 cases r with
 | nil=>simp
 | cons _ _=>simp
theorem qtr:OpR X (binaryOp .Add) (q1s X.K):=by
 intro pins s σ H x y v u Q I rx ry h
 obtain ⟨a,b,xs,ys,rfl,rfl,ha,hb,hx,hz,q1,q2⟩:=h
 cases rx
 cases ry
 obtain ⟨its,r1,p1,_⟩:=I.tuple ha
 obtain ⟨its2,r2,p2,_⟩:=I.tuple hb
 refine HT.cat_tup p1 p2 (fun z=>hx (r1.nil_iff.mp z)) (fun z=>⟨.ref a,H,I,rfl,q1 (r2.nil_iff.mp z)⟩) (fun z=> ?_) (by rw[← r1.length,← r2.length];exact hz)
 refine⟨.ref s.heap.objs.size,_,I.laid (t':=s.toks) (o:=.tup (xs++ys)) (fun b ob q=>Heap.get?_push_of_some _ q) (Nat.le_refl _) ?_,rfl,q2 (fun w=>z (r2.nil_iff.mpr w)) _ (I.hok.fresh (Nat.le_refl _))⟩
 exact⟨by rw[List.length_append];exact hz,_,r1.append r2,IsTup.new _ _⟩
end
noncomputable def ixN (n:Nat) (i:Int):Option Nat:=if 0≤i then (if i < n then some i.toNat else none)else if -(n:Int)≤i then some (i+n).toNat else none
noncomputable def atI {α:Type} (xs:List α) (i:Int):Option α:=(ixN xs.length i).bind fun j=>xs[j]?
theorem qnz {n:Nat} {i:Int} {j:Nat} (h:ixN n i=some j):seqIndex? i n=some j∧j < n∧ -(n:Int)≤i∧i < n:=by
 unfold ixN at h
 by_cases h0:0≤i
 · rw[if_pos h0]at h
   by_cases h1:i < n
   · rw[if_pos h1]at h
     have e:i.toNat=j:=Option.some.inj h
     exact⟨by rw[seqIndex_of h0 h1,e],by omega,by omega,h1⟩
   · rw[if_neg h1]at h;cases h
 · rw[if_neg h0]at h
   by_cases h1: -(n:Int)≤i
   · rw[if_pos h1]at h
     have e:(i+n).toNat=j:=Option.some.inj h
     exact⟨by rw[seqIndex_neg (by omega) h1,e],by omega,h1,by omega⟩
   · rw[if_neg h1]at h;cases h
theorem qga {α:Type} {xs:List α} {i:Int} {v:α} (h:atI xs i=some v):∃ j,seqIndex? i xs.length=some j∧xs[j]? =some v∧j < xs.length∧ -(xs.length:Int)≤i∧i < xs.length:=by
 unfold atI at h
 cases e:ixN xs.length i with
 | none=>rw[e]at h;cases h
 | some j =>
   rw[e]at h
   obtain ⟨h1,h2,h3,h4⟩:=qnz e
   exact⟨j,h1,h,h2,h3,h4⟩
theorem qgb {α:Type} {xs:List α} {j:Nat} {v:α} (h:xs[j]? =some v):atI xs (j:Int)=some v:=by
 have hj:j < xs.length:=(List.getElem?_eq_some_iff.mp h).1
 have e:ixN xs.length (j:Int)=some j:=by
   unfold ixN
   rw[if_pos (by omega),if_pos (by omega)];simp
 unfold atI;rw[e];exact h
noncomputable def qji (b:Expr):Prop:=∀ o i,subscripted b false o i=operate [o,i] (getItem o i)
noncomputable def IxR (X:Cx) (r:R2):Prop :=
 ∀ (value slice:Expr) (pins:List (Addr × Obj)) (s:Shared) (σ:St) (H:Hp) (x y:V) (v u:Value) (Q:VK),Inv X pins σ H s→RelV x v→RelV y u→r x y H Q →
   subscripted slice false v u=operate [v,u] (getItem v u)→wpAny (model X.prog X.w) X.A (subscriptTail value slice v u) (EP X pins σ Q) X.xe s
noncomputable def MtR (X:Cx) (id:String) (r:V→List V→Hp→VK→Prop):Prop :=
 ∀ (pins:List (Addr × Obj)) (s:Shared) (σ:St) (H:Hp) (x:V) (xs:List V) (v:Value) (us:List Value) (Q:VK),Inv X pins σ H s→RelV x v→Vals xs us→r x xs H Q →
   wpAny (model X.prog X.w) X.A (call (.builtin id) (v::us)) (EP X pins σ Q) X.xe s
section
variable {X:Cx} {a b:Expr} {ta tb:TE} {pos:Pos}
theorem IxR.or {r r':R2} (h:IxR X r) (h':IxR X r'):IxR X (fun x y H Q=>r x y H Q∨r' x y H Q):=by
 intro value slice pins s σ H x y v u Q I rx ry q hs
 rcases q with q | q
 · exact h value slice pins s σ H x y v u Q I rx ry q hs
 · exact h' value slice pins s σ H x y v u Q I rx ry q hs
theorem q1t {r:R2} (hr:IxR X r) (ha:PE X a ta) (hb:PE X b tb) (hs:qji b):PE X (.Subscript a b pos) (tOp r ta tb):=by
 intro pins s σ H Q I h
 exact Subscript_ (qxd ha hb I h fun v u s2 x y H2 I2 rx ry q=>hr a b pins s2 σ H2 x y v u Q I2 rx ry q (hs _ _))
noncomputable def qxs (K:PySem.W.Frag):R2:=fun x y H Q=>∃ p xs i v,x=.ref p∧y=.int i∧SqL K H p xs∧atI xs i=some v∧Q v H
noncomputable def q4o (K:PySem.W.Frag):R2:=fun x y H Q=>∃ p xs i v,x=.ref p∧y=.int i∧SqT K H p xs∧atI xs i=some v∧Q v H
noncomputable def q4p:R2:=fun x y H Q=>∃ z i c,x=.str z∧y=.int i∧z.length≤sizeLine∧atI z.cps.toList i=some c∧Q (.str ⟨#[c]⟩) H
theorem qts:IxR X (qxs X.K):=by
 intro value slice pins s σ H x y v u Q I rx ry h hs
 obtain ⟨p,xs,i,z,rfl,rfl,hq,he,q⟩:=h
 cases rx
 obtain ⟨t,rfl⟩:=ry
 obtain ⟨its,r,pl,hz⟩:=I.list hq
 obtain ⟨j,h1,h2,h3,h4,h5⟩:=qga he
 obtain ⟨w,ew,rw'⟩:=r.get h2
 have hl:=r.length
 have hn:=qcv
 have fin:EP X pins σ Q w s:=⟨z,H,I,rw',q⟩
 by_cases h0:0≤i
 · have hj:i.toNat=j:=by
     rw[seqIndex_of h0 h5]at h1
     exact Option.some.inj h1
   exact item_listR pl.isList h0 (by omega) (by rw[hj];simpa using ew) fin hs
 · have hj:(i+(its.toArray.size:Int)).toNat=j:=by
     rw[seqIndex_neg (by omega) h4]at h1
     rw[List.size_toArray,← hl]
     exact Option.some.inj h1
   exact subscriptTail_builtinR (x:=w) pl.isList.typeIs slot_list_getitem.lookup
     (wpAny_getItem_list_neg (Q:=fun r s'=>r=w∧EP X pins σ Q r s') pl.isList (by omega) (by rw[List.size_toArray] <;> omega) (by omega) (by rw[hj];simpa using ew) ⟨rfl,fin⟩) hs
theorem qxt:IxR X (q4o X.K):=by
 intro value slice pins s σ H x y v u Q I rx ry h hs
 obtain ⟨p,xs,i,z,rfl,rfl,hq,he,q⟩:=h
 cases rx
 obtain ⟨t,rfl⟩:=ry
 obtain ⟨its,r,pl,hz⟩:=I.tuple hq
 obtain ⟨j,h1,h2,h3,h4,h5⟩:=qga he
 obtain ⟨w,ew,rw'⟩:=r.get h2
 have hl:=r.length
 have hn:=qcv
 have fin:EP X pins σ Q w s:=⟨z,H,I,rw',q⟩
 exact subscriptTail_builtinR (x:=w) pl.typeIs slot_tuple_getitem.lookup
   (getItem_tuple (j:=j) (Q:=fun r s'=>r=w∧EP X pins σ Q r s') pl (by omega) (by omega) (by rw[List.size_toArray,← hl];exact h1) (by simpa using ew) ⟨rfl,fin⟩) hs
theorem qxu:IxR X q4p:=by
 intro value slice pins s σ H x y v u Q I rx ry h hs
 obtain ⟨z,i,c,rfl,rfl,hz,he,q⟩:=h
 obtain ⟨t,rfl⟩:=rx
 obtain ⟨t',rfl⟩:=ry
 obtain ⟨j,h1,h2,h3,h4,h5⟩:=qga he
 have hl:z.cps.toList.length=z.length:=by simp [Str.length]
 rw[hl]at h1 h4 h5
 have hn:=qcv
 exact tail_any (typeIs_str s z t) slot_str_getitem.lookup (getItem_str (c:=c) (by
   have e1:decide (i < -(2 ^ 63:Int))=false:=decide_eq_false (by omega)
   have e2:decide (i ≥ 2 ^ 63)=false:=decide_eq_false (by omega)
   rw[e1,e2,Bool.or_false]) (by rw[h1];simpa using h2) ⟨.str ⟨#[c]⟩,H,I.tok _,⟨_,rfl⟩,q⟩) hs
theorem qmv (its:List Value) (n j:Nat) (u:Value):Obj.mapSeq (·.setIfInBounds j u) { cls:=.type "list",data:=.seq its.toArray n }={ cls:=.type "list",data:=.seq (its.set j u).toArray n }:=by
 simp [Obj.mapSeq]
theorem Inv.lst {pins:List (Addr × Obj)} {σ:St} {H:Hp} {s:Shared} {p:Addr} {xs:List V} (I:Inv X pins σ H s) (h:H p=some (.lst xs)) :
   ∃ (its:List Value) (n:Nat),Vals xs its∧s.heap.get? p=some { cls:=.type "list",data:=.seq its.toArray n }∧xs.length≤sizeLine:=by
 obtain ⟨z,its,n,r,e⟩:=I.hok p _ h
 exact⟨its,n,r,e,z⟩
theorem Inv.lstUpd {pins:List (Addr × Obj)} {σ:St} {H:Hp} {s:Shared} {p:Addr} {xs ys:List V} {its its':List Value} {n n':Nat} {f:Obj→Obj} (I:Inv X pins σ H s) (h:H p=some (.lst xs))
   (ho:s.heap.get? p=some { cls:=.type "list",data:=.seq its.toArray n }) (hf:f { cls:=.type "list",data:=.seq its.toArray n }={ cls:=.type "list",data:=.seq its'.toArray n' }) (r:Vals ys its') (hz:ys.length≤sizeLine) (t:Nat) :
   Inv X pins σ (upd H p (.lst ys)) { s with heap:=s.heap.update p f,toks:=t }:=by
 have e:(s.heap.update p f).get? p=some { cls:=.type "list",data:=.seq its'.toArray n' }:=by
   rw[Heap.get?_update_self f ho (by rw[hf] <;> rfl),hf]
 refine I.write (x:=p) (e:=p) (by rw[h];trivial) (.inl rfl) (fun b u hb q=>(Heap.get?_update_other _ _ (Ne.symm hb)).trans q) ⟨_,e⟩ ?_
 exact⟨hz,its',n',r,e⟩
noncomputable def qwc:V→V→V→Hp→(Hp→Prop)→Prop:=fun o i v H Q=>∃ p xs k j,o=.ref p∧i=.int k∧H p=some (.lst xs)∧ixN xs.length k=some j∧Q (upd H p (.lst (xs.set j v)))
theorem set_list:qhw X qwc:=by
 intro pins s σ H o i v ov iv u Q I ro ri rv h
 obtain ⟨p,xs,k,j,rfl,rfl,hp,hj,q⟩:=h
 cases ro
 obtain ⟨t,rfl⟩:=ri
 obtain ⟨its,n,r,ho,hz⟩:=I.lst hp
 obtain ⟨h1,h2,h3,h4⟩:=qnz hj
 have hl:=r.length
 have hn:=qcv
 have I':Inv X pins σ (upd H p (.lst (xs.set j v))) { s with heap:=s.heap.update p (Obj.mapSeq (·.setIfInBounds j u)) } :=
   I.lstUpd hp ho (qmv its n j u) (r.set rv j) (by rw[List.length_set];exact hz) s.toks
 by_cases h0:0≤k
 · have hk:k.toNat=j:=by
     rw[seqIndex_of h0 h4]at h1
     exact Option.some.inj h1
   exact PySem.W.ki_setAt ho h0 (by omega) (by rw[List.size_toArray,← hl];exact h4) (by rw[hk];exact⟨_,I',q⟩)
 · have hk:(k+(its.toArray.size:Int)).toNat=j:=by
     rw[seqIndex_neg (by omega) h3]at h1
     rw[List.size_toArray,← hl]
     exact Option.some.inj h1
   exact PySem.W.ki_setBack ho (by omega) (by rw[List.size_toArray,← hl];exact h3) (by omega) (by rw[hk];exact⟨_,I',q⟩)
theorem qjj (lo hi:Option Int) (n:Nat):(sliceBounds lo hi none n).1=((HT.sIx n 0 lo:Nat):Int)∧(sliceBounds lo hi none n).2.1=((HT.sIx n n hi:Nat):Int)∧(sliceBounds lo hi none n).2.2=1:=by
 refine⟨?_,?_,rfl⟩
 · cases lo with
   | none=>simp [sliceBounds,HT.sIx]
   | some i =>
     simp only [sliceBounds,HT.sIx,Option.getD_none,show (1:Int) > 0 by decide,if_true]
     by_cases h:i < 0
     · simp only [h,if_true] <;> omega
     · simp only [h,if_false] <;> omega
 · cases hi with
   | none=>simp [sliceBounds,HT.sIx]
   | some i =>
     simp only [sliceBounds,HT.sIx,Option.getD_none,show (1:Int) > 0 by decide,if_true]
     by_cases h:i < 0
     · simp only [h,if_true] <;> omega
     · simp only [h,if_false] <;> omega
theorem qhx (its:List Value) (lo hi:Option Int):slicePick its.toArray lo hi none=((its.drop (HT.sIx its.length 0 lo)).take (HT.sIx its.length its.length hi - HT.sIx its.length 0 lo)).toArray:=by
 obtain ⟨h1,h2,h3⟩:=qjj lo hi its.toArray.size
 unfold slicePick
 rw[h1,h2,h3]
 simp only [sliceRange_one,pick_run,List.size_toArray] <;> rfl
noncomputable def q1u (K:PySem.W.Frag):V→Option Int→Option Int→Hp→VK→Prop:=fun x lo hi H Q=>∃ a xs,x=.ref a∧SqL K H a xs∧∀ p,H p=none→Q (.ref p) (upd H p (.lst (qf5 xs lo hi)))
theorem qn0:SlR X (q1u X.K):=by
 intro pins s σ H x v vl vu lo hi sl Q I rx hs pl pu h
 obtain ⟨a,xs,rfl,hx,q⟩:=h
 cases rx
 obtain ⟨its,r,ht,hz⟩:=I.list hx
 have hlen:=r.length
 refine⟨"list",_,slot_list_getitem.lookup,ht.isList.typeIs,?_⟩
 refine wpAny_getItem_list_slice ht.isList hs pl pu .none (by simp) ?_ (by rw[List.size_toArray] <;> omega)
 rw[qhx,← hlen]
 refine⟨.ref s.heap.objs.size,_,I.laid (t':=s.toks) (o:=.lst (qf5 xs lo hi)) (fun b ob q=>Heap.get?_push_of_some _ q) (Nat.le_refl _) ?_,rfl,q _ (I.hok.fresh (Nat.le_refl _))⟩
 exact⟨Nat.le_trans (qfo xs lo hi) hz,_,0,(r.drop (HT.sIx xs.length 0 lo)).take (HT.sIx xs.length xs.length hi - HT.sIx xs.length 0 lo),Heap.get?_push_size _ rfl⟩
noncomputable def qip:V→Bool
 | .non=>true
 | .bl _=>true
 | .int _=>true
 | .str _=>true
 | _=>false
noncomputable def eqV:V→V→Bool
 | .non,.non=>true
 | .bl a,.bl b=>a==b
 | .bl a,.int b=>(if a then 1 else 0)==b
 | .int a,.bl b=>a==(if b then 1 else 0)
 | .int a,.int b=>a==b
 | .str a,.str b=>a==b
 | _,_=>false
theorem qxv {A:Around} {s:Shared} {y x:V} {u v:Value} (ry:RelV y u) (rx:RelV x v) (fy:qip y=true) (fx:qip x=true):SeqAt.EqAt A s u v (eqV y x):=by
 cases y with
 | non =>
   cases ry
   cases x with
   | non=>cases rx;exact SeqAt.EqAt.same _
   | bl b=>cases rx;exact SeqAt.EqAt.none_bool b
   | int b=>obtain ⟨t,rfl⟩:=rx;exact SeqAt.EqAt.none_int b t
   | str b=>obtain ⟨t,rfl⟩:=rx;exact SeqAt.EqAt.none_str b t
   | _=>exact absurd (show false=true from fx) Bool.false_ne_true
 | bl a =>
   cases ry
   cases x with
   | non=>cases rx;exact SeqAt.EqAt.bool_none a
   | bl b=>cases rx;exact SeqAt.EqAt.bool_bool a b
   | int b=>obtain ⟨t,rfl⟩:=rx;exact SeqAt.EqAt.bool_int a b t
   | str b=>obtain ⟨t,rfl⟩:=rx;exact SeqAt.EqAt.bool_str a b t
   | _=>exact absurd (show false=true from fx) Bool.false_ne_true
 | int a =>
   obtain ⟨t',rfl⟩:=ry
   cases x with
   | non=>cases rx;exact SeqAt.EqAt.int_none a t'
   | bl b=>cases rx;exact SeqAt.EqAt.int_bool a t' b
   | int b=>obtain ⟨t,rfl⟩:=rx;exact SeqAt.EqAt.int_int a t' b t
   | str b=>obtain ⟨t,rfl⟩:=rx;exact SeqAt.EqAt.int_str a t' b t
   | _=>exact absurd (show false=true from fx) Bool.false_ne_true
 | str a =>
   obtain ⟨t',rfl⟩:=ry
   cases x with
   | non=>cases rx;exact SeqAt.EqAt.str_none a t'
   | bl b=>cases rx;exact SeqAt.EqAt.str_bool a t' b
   | int b=>obtain ⟨t,rfl⟩:=rx;exact SeqAt.EqAt.str_int a t' b t
   | str b=>obtain ⟨t,rfl⟩:=rx;exact SeqAt.EqAt.str_str a t' b t
   | _=>exact absurd (show false=true from fx) Bool.false_ne_true
 | _=>exact absurd (show false=true from fy) Bool.false_ne_true
theorem qej:qx X (.builtin "len") (fun xs H Q=>∃ p ys,xs=[.ref p]∧(SqL X.K H p ys∨SqT X.K H p ys)∧Q (.int ys.length) H):=by
 intro pins s σ H xs us Q I r h
 obtain ⟨p,ys,rfl,hq,q⟩:=h
 obtain ⟨u,rfl,rx⟩:=vals1 r
 cases rx
 have hn:=qcv
 rcases hq with hq | hq
 · obtain ⟨its,r',pl,hz⟩:=I.list hq
   have hlen:=r'.length
   exact Calls.call_len_list pl.isList (by simp only [List.size_toArray] <;> omega) ⟨.int ys.length,H,I.tok _,⟨s.toks+1,by rw[List.size_toArray,hlen]⟩,q⟩
 · obtain ⟨its,r',pl,hz⟩:=I.tuple hq
   have hlen:=r'.length
   exact len_tuple pl (by simp only [List.size_toArray] <;> omega) ⟨.int ys.length,H,I.tok _,⟨s.toks+1,by rw[List.size_toArray,hlen]⟩,q⟩
theorem qjk:qx X (.builtin "len") (fun xs H Q=>∃ z,xs=[.str z]∧z.length≤sizeLine∧Q (.int z.length) H):=by
 intro pins s σ H xs us Q I r h
 obtain ⟨z,rfl,hz,q⟩:=h
 obtain ⟨u,rfl,t,rfl⟩:=vals1 r
 have hn:=qcv
 exact len_str (by omega) ⟨.int z.length,H,I.tok _,⟨_,rfl⟩,q⟩
theorem qx.or {f:Value} {r r':List V→Hp→VK→Prop} (h:qx X f r) (h':qx X f r'):qx X f (fun xs H Q=>r xs H Q∨r' xs H Q):=by
 intro pins s σ H xs us Q I rs q
 rcases q with q | q
 · exact h pins s σ H xs us Q I rs q
 · exact h' pins s σ H xs us Q I rs q
theorem qek:qx X (.type "list") (fun xs H Q=>∃ p ys,xs=[.ref p]∧(SqL X.K H p ys∨SqT X.K H p ys)∧∀ l,H l=none→Q (.ref l) (upd H l (.lst ys))):=by
 intro pins s σ H xs us Q I r h
 obtain ⟨p,ys,rfl,hq,q⟩:=h
 obtain ⟨u,rfl,rx⟩:=vals1 r
 cases rx
 have fin:∀ (its:List Value),Vals ys its→ys.length≤sizeLine→∀ (h':Heap) (c':Nat),(∀ b o',s.heap.get? b=some o'→h'.get? b=some o') →
     h'.get? s.heap.objs.size=some { cls:=.type "list",dict:=none,data:=.seq its.toArray c',slots:= #[] }→EP X pins σ Q (.ref s.heap.objs.size) { s with heap:=h' }:=fun its r' hz h' c' kp e =>
   ⟨.ref s.heap.objs.size,_,I.laid (t':=s.toks) kp (Nat.le_refl _) (show qw X.prog X.w _ h' _ (.lst ys) from ⟨hz,its,c',r',e⟩),rfl,q _ (I.hok.fresh (Nat.le_refl _))⟩
 rcases hq with hq | hq
 · obtain ⟨its,r',pl,hz⟩:=I.list hq
   have hlen:=r'.length
   obtain ⟨o,ho,hc,n,hd⟩:=pl.isList
   exact call_list_seq p (.inl rfl) ho hc hd (fun h' c' kp e=>fin its r' hz h' c' kp e) (by simp only [List.size_toArray] <;> omega)
 · obtain ⟨its,r',pl,hz⟩:=I.tuple hq
   have hlen:=r'.length
   obtain ⟨o,ho,hc,n,hd⟩:=pl
   exact call_list_seq p (.inr rfl) ho hc hd (fun h' c' kp e=>fin its r' hz h' c' kp e) (by simp only [List.size_toArray] <;> omega)
theorem qhy:qx X (.type "tuple") (fun xs H Q=>∃ p ys,xs=[.ref p]∧((SqL X.K H p ys∧∀ l,H l=none→Q (.ref l) (upd H l (.tup ys)))∨(SqT X.K H p ys∧Q (.ref p) H))):=by
 intro pins s σ H xs us Q I r h
 obtain ⟨p,ys,rfl,h⟩:=h
 obtain ⟨u,rfl,rx⟩:=vals1 r
 cases rx
 rcases h with ⟨hq,q⟩ | ⟨hq,q⟩
 · obtain ⟨its,r',pl,hz⟩:=I.list hq
   have hlen:=r'.length
   refine call_tuple_list pl.isList (fun h' kp=> ?_) (by simp only [List.size_toArray] <;> omega)
   have I1:Inv X pins σ H { s with heap:=h' }:=I.kept (t':=s.toks) kp
   have I2:Inv X pins σ (upd H h'.objs.size (.tup ys)) { s with heap:=h'.push { cls:=.type "tuple",data:=.seq its.toArray } } :=
     I1.laid (t':=s.toks) (fun b o e=>Heap.get?_push_of_some _ e) (Nat.le_refl _) (show qw X.prog X.w _ _ _ (.tup ys) from ⟨hz,its,r',IsTup.new _ _⟩)
   exact⟨.ref h'.objs.size,_,I2,rfl,q _ (I1.hok.fresh (Nat.le_refl _))⟩
 · obtain ⟨its,r',pl,hz⟩:=I.tuple hq
   exact call_tuple_same pl ⟨.ref p,H,I,rfl,q⟩
noncomputable def tyV (K:PySem.W.Frag) (T:String) (x:V) (H:Hp):Prop:=match x with
 | .str _=>T="str"
 | .int _=>T="int"
 | .ref p=>(T="list"∧∃ xs,SqL K H p xs)∨(T="tuple"∧∃ o,K.lookup p=some o∧o.cls=.type "tuple"∧o.dict=none) ∨
     (T="dict"∧((∃ kvs,H p=some (.dK kvs))∨∃ kvs,H p=some (.dT kvs)))∨(T="set"∧∃ S n,H p=some (.set S n))
 | _=>False
theorem qqv {pins:List (Addr × Obj)} {σ:St} {H:Hp} {s:Shared} {T:String} {x:V} {v:Value} (I:Inv X pins σ H s) (r:RelV x v) (ty:tyV X.K T x H) :
   s.TypeIs v T∧∀ a,v=.ref a→∃ ob,s.heap.get? a=some ob∧ob.dict=none:=by
 cases x with
 | str z =>
   obtain ⟨t,rfl⟩:=r
   cases (show T="str" from ty)
   exact⟨typeIs_str s z t,fun _ e=>nomatch e⟩
 | int i =>
   obtain ⟨t,rfl⟩:=r
   cases (show T="int" from ty)
   exact⟨typeIs_int s i t,fun _ e=>nomatch e⟩
 | ref p =>
   cases r
   rcases ty with ⟨rfl,xs,hq⟩ | ⟨rfl,o,hk,hc,hd⟩ | ⟨rfl,hk⟩ | ⟨rfl,S,n,hk⟩
   · obtain ⟨its,_,pl,_⟩:=I.list hq
     refine⟨pl.isList.typeIs,fun a e=> ?_⟩
     cases e
     obtain ⟨o,n,e,c,hd,_⟩:=pl
     exact⟨o,e,hd⟩
   · refine⟨⟨o,I.kIn p o hk,hc⟩,fun a e=> ?_⟩
     cases e
     exact⟨o,I.kIn _ o hk,hd⟩
   · have z:∃ o,s.heap.get? p=some o∧o.ExactDict:=by
       rcases hk with ⟨kvs,hk⟩ | ⟨kvs,hk⟩
       · obtain ⟨_,_,_,_,o,_,_,e,ex,_⟩:=I.hok p _ hk
         exact⟨o,e,ex⟩
       · obtain ⟨_,_,_,_,o,_,_,e,ex,_⟩:=I.hok p _ hk
         exact⟨o,e,ex⟩
     obtain ⟨o,e,ex⟩:=z
     refine⟨⟨o,e,ex.1⟩,fun a e2=> ?_⟩
     cases e2
     exact⟨o,e,ex.2.1⟩
   · obtain ⟨o,_,_,_,e,ex,_⟩:=I.hok p _ hk
     refine⟨⟨o,e,ex.1⟩,fun a e2=> ?_⟩
     cases e2
     exact⟨o,e,ex.2.1⟩
 | _=>exact False.elim ty
noncomputable def q4q (K:PySem.W.Frag) (T:String) (r:V→List V→Hp→VK→Prop) (to:TE):TE:=fun σ H Q=>to σ H fun x H1=>tyV K T x H1∧r x [] H1 Q
noncomputable def tBM (K:PySem.W.Frag) (T:String) (r:V→List V→Hp→VK→Prop) (to:TE) (t:TA):TE:=fun σ H Q=>to σ H fun x H1=>tyV K T x H1∧t σ H1 fun xs H2=>r x xs H2 Q
variable {o e:Expr} {es:List Expr} {to:TE} {t:TA} {name:Str} {apos cpos:Pos} {T id:String} {r:V→List V→Hp→VK→Prop}
theorem qxw (pa:PlainAttrs T) (slot:Slot T name id) (hty:typeOf (.builtin id)=pure (.type "method_descriptor")) (hm:MtR X id r) (ho:PE X o to)
   (hbase:attributeBase o name X.env (eval o X.env)=eval o X.env:=by rfl) (hline:(apos.endLine==cpos.line)=true:=by rfl):PE X (.Call (.Attribute o name apos) [] [] cpos) (q4q X.K T r to):=by
 intro pins s σ H Q I h
 refine wpAny_Call_method0_late hbase hline (thn (ho pins s σ H _ I h) fun v s1 ⟨x,H1,I1,r1,ty,q1⟩=> ?_)
 obtain ⟨h1,h2⟩:=qqv I1 r1 ty
 exact⟨T,id,pa,slot,hty,h1,h2,Calls.callWith_builtin rfl (PySem.evalArgs_none (hm pins s1 σ H1 x [] v [] Q I1 r1 .nil q1))⟩
theorem q1v (pa:PlainAttrs T) (slot:Slot T name id) (hty:typeOf (.builtin id)=pure (.type "method_descriptor")) (hm:MtR X id r) (ho:PE X o to) (ha:PA X (e::es) t)
   (hbase:attributeBase o name X.env (eval o X.env)=eval o X.env:=by rfl)
   (hfew:((backTo cpos (starEach (e::es) X.env)).all (fun x=> !x.1) && (backToKw cpos (keywordEach [] X.env)).all (fun x=>x.1.isSome)
     && decide ((e::es).length+([]:List Keyword).length+(if ([]:List Keyword).isEmpty then 0 else 1) < 30))=true:=by rfl)
   (hline:(apos.endLine==cpos.line)=true:=by rfl) (hs:starEach (e::es) X.env=(false,eval e X.env)::starEach es X.env:=by rfl) (hplain:(backTo cpos (starEach es X.env)).any (·.1)=false:=by rfl) :
   PE X (.Call (.Attribute o name apos) (e::es) [] cpos) (tBM X.K T r to t):=by
 intro pins s σ H Q I h
 refine wpAny_Call_method_late hbase hfew hline rfl (thn (ho pins s σ H _ I h) fun v s1 ⟨x,H1,I1,r1,ty,q1⟩=> ?_)
 obtain ⟨h1,h2⟩:=qqv I1 r1 ty
 refine⟨T,id,pa,slot,hty,h1,h2,?_⟩
 have hA:=ha cpos pins s1 σ H1 _ I1 q1
 rw[hs]at hA ⊢
 refine Calls.callWith_builtin (by show (false || (backTo cpos (starEach es X.env)).any (·.1))=false;rw[hplain] <;> rfl) (Calls.evalArgs_plain ?_)
 exact thn hA fun us s2 ⟨vs,H2,I2,r2,q2⟩=>hm pins s2 σ H2 x vs v us Q I2 r1 r2 q2
end
noncomputable def MtM (X:Cx) (id:String) (r:V→List V→Hp→VK→Prop):Prop :=
 ∀ (pins:List (Addr × Obj)) (s:Shared) (σ:St) (H:Hp) (x:V) (xs:List V) (v:Value) (us:List Value) (Q:VK),Inv X pins σ H s→RelV x v→Vals xs us→r x xs H Q →
   wpAny (model X.prog X.w) X.A (call (.builtin id) (v::us)) (EP X pins σ Q) X.xe s
theorem Vals.one:∀ {x:V} {us:List Value},Vals [x] us→∃ u,us=[u]∧RelV x u
 | _,_,.cons r .nil=>⟨_,rfl,r⟩
theorem Vals.two:∀ {x y:V} {us:List Value},Vals [x,y] us→∃ u v,us=[u,v]∧RelV x u∧RelV y v
 | _,_,_,.cons r (.cons q .nil)=>⟨_,_,rfl,r,q⟩
theorem Vals.zero:∀ {us:List Value},Vals [] us→us=[]
 | _,.nil=>rfl
theorem Vals.dropLast {xs:List V} {us:List Value} (h:Vals xs us):Vals xs.dropLast us.dropLast:=by
 induction h with
 | nil=>exact .nil
 | cons r t ih =>
   cases t with
   | nil=>exact .nil
   | cons q t'=>exact .cons r ih
theorem Vals.rep {xs:List V} {us:List Value} (h:Vals xs us):∀ k:Nat,Vals (List.replicate k xs).flatten (List.replicate k us).flatten
 | 0=>.nil
 | k+1=>by
   rw[List.replicate_succ,List.replicate_succ,List.flatten_cons,List.flatten_cons]
   exact Vals.append h (Vals.rep h k)
theorem qmw {α:Type} (l:List α):l.eraseIdx (l.length - 1)=l.dropLast:=by
 induction l with
 | nil=>rfl
 | cons a r ih =>
   cases r with
   | nil=>rfl
   | cons b r =>
     have e:(a::b::r).length - 1=((b::r).length - 1)+1:=by
       have h1:(a::b::r).length=r.length+2:=rfl
       have h2:(b::r).length=r.length+1:=rfl
       omega
     rw[e,List.eraseIdx_cons_succ,ih]
     all_goals rfl
theorem foldl_rep (its:List Value):∀ (k:Nat) (acc:List Value),
   List.foldl (fun x1 x2=>x1++x2) acc.toArray (List.replicate k its.toArray)=(acc++(List.replicate k its).flatten).toArray
 | 0,acc=>by simp
 | k +1,acc=>by
   have e:acc.toArray++its.toArray=(acc++its).toArray:=by simp
   have e2:(acc++its)++(List.replicate k its).flatten=acc++(List.replicate (k+1) its).flatten:=by
     rw[List.replicate_succ,List.flatten_cons,List.append_assoc]
   rw[← e2,← foldl_rep its k (acc++its),← e,List.replicate_succ,List.foldl_cons]
section
variable {X:Cx} {pins:List (Addr × Obj)} {σ:St} {H:Hp} {s:Shared} {l b:Addr} {xs ys zs:List V}
theorem Inv.lset {its its':List Value} {n:Nat} {f:Array Value→Array Value} {t':Nat} (I:Inv X pins σ H s) (hH:H l=some (.lst xs))
   (e:s.heap.get? l=some { cls:=.type "list",data:=.seq its.toArray n }) (hf:f its.toArray=its'.toArray) (hv:Vals ys its') (hz:ys.length≤sizeLine) :
   Inv X pins σ (upd H l (.lst ys)) { s with heap:=s.heap.update l (Obj.mapSeq f),toks:=t' }:=by
 have q:=PySem.IsL.update e f
 rw[hf]at q
 refine I.write (x:=l) (e:=l) (by rw[hH];exact trivial) (.inl rfl) (fun b' u hb hu=>(Heap.get?_update_other s.heap (Obj.mapSeq f) (Ne.symm hb)).trans hu) ⟨_,q⟩ ?_
 exact⟨hz,its',_,hv,q⟩
theorem Inv.lnew {its:List Value} {t':Nat} (I:Inv X pins σ H s) (hv:Vals ys its) (hz:ys.length≤sizeLine) :
   Inv X pins σ (upd H s.heap.objs.size (.lst ys)) { s with heap:=s.heap.push { cls:=.type "list",data:=.seq its.toArray },toks:=t' } :=
 I.laid (fun _ _ q=>Heap.get?_push_of_some _ q) (Nat.le_refl _) ⟨hz,its,0,hv,Heap.get?_push_size _ rfl⟩
theorem Inv.fresh (I:Inv X pins σ H s):H s.heap.objs.size=none:=I.hok.fresh (Nat.le_refl _)
theorem Inv.lstM (I:Inv X pins σ H s) (hH:H l=some (.lst xs)):xs.length≤sizeLine∧∃ (its:List Value) (n:Nat),Vals xs its∧xs.length=its.length∧s.heap.get? l=some { cls:=.type "list",data:=.seq its.toArray n }:=by
 obtain ⟨z,its,n,r,e⟩:=I.hok l _ hH
 exact⟨z,its,n,r,r.length,e⟩
theorem qqw {n:Nat} (h:n≤sizeLine):Builtin.List.listTooLong n=false:=by
 unfold Builtin.List.listTooLong
 exact decide_eq_false (by omega)
end
section
variable {X:Cx}
noncomputable def qtt:V→List V→Hp→VK→Prop:=fun x vs H Q=>∃ l xs y,x=.ref l∧vs=[y]∧H l=some (.lst xs)∧xs.length < sizeLine∧Q .non (upd H l (.lst (xs++[y])))
theorem qpa:MtM X "list.append" qtt:=by
 intro pins s σ H x vs v us Q I rx rv h
 obtain ⟨l,xs,y,rfl,rfl,hH,hz,q⟩:=h
 cases rx
 obtain ⟨u,rfl,ru⟩:=rv.one
 obtain ⟨z,its,n,r,hl,e⟩:=I.lstM hH
 refine call_meets F.slot_list_append ⟨_,e,rfl⟩ F.entry_list_append (F.args_list_append_2 _ _) (PySem.list_append l its.toArray n u (by rw[List.size_toArray];omega)) ⟨e,?_⟩
 refine⟨.non,_,I.lset (its':=its++[u]) hH e (by simp) (r.append (.cons ru .nil)) ?_,rfl,q⟩
 rw[List.length_append,List.length_singleton]
 omega
noncomputable def q4r:V→List V→Hp→VK→Prop:=fun x vs H Q=>∃ l xs y,x=.ref l∧vs=[]∧H l=some (.lst xs)∧xs[xs.length - 1]? =some y∧Q y (upd H l (.lst xs.dropLast))
theorem qxx:MtM X "list.pop" q4r:=by
 intro pins s σ H x vs v us Q I rx rv h
 obtain ⟨l,xs,y,rfl,rfl,hH,hy,q⟩:=h
 cases rx
 have hus:=rv.zero
 subst hus
 obtain ⟨z,its,n,r,hl,e⟩:=I.lstM hH
 obtain ⟨u,hu,ru⟩:=r.get hy
 have hy':its.toArray[its.toArray.size - 1]? =some u:=by
   show its.toArray[its.length - 1]? =some u
   rw[← Array.getElem?_toList,← hl]
   exact hu
 refine call_meets F.slot_list_pop ⟨_,e,rfl⟩ F.entry_list_pop (F.args_list_pop_1 _) (MeetsSeq.list_pop_last l its.toArray n u hy' (by rw[List.size_toArray];omega)) ⟨e,?_⟩
 refine⟨y,_,I.lset (its':=its.dropLast) hH e ?_ r.dropLast ?_,ru,q⟩
 · show its.toArray.eraseIdxIfInBounds (its.toArray.size - 1)=its.dropLast.toArray
   rw[List.size_toArray,List.eraseIdxIfInBounds_toArray,qmw]
 · rw[List.length_dropLast]
   omega
noncomputable def qxy:V→List V→Hp→VK→Prop:=fun x vs H Q=>∃ l xs,x=.ref l∧vs=[]∧H l=some (.lst xs)∧Q .non (upd H l (.lst []))
theorem qqx:MtM X "list.clear" qxy:=by
 intro pins s σ H x vs v us Q I rx rv h
 obtain ⟨l,xs,rfl,rfl,hH,q⟩:=h
 cases rx
 have hus:=rv.zero
 subst hus
 obtain ⟨z,its,n,r,hl,e⟩:=I.lstM hH
 refine call_meets F.slot_list_clear ⟨_,e,rfl⟩ F.entry_list_clear (F.args_list_clear_1 _) (AutoSeq1.list_clear_list_0 l its.toArray n (by rw[List.size_toArray];omega)) ⟨e,?_⟩
 exact⟨.non,_,I.lset (its':=[]) (ys:=[]) hH e rfl .nil (Nat.zero_le _),rfl,q⟩
noncomputable def q4s:R2:=fun x y H Q=>∃ l b xs zs,x=.ref l∧y=.ref b∧H l=some (.lst xs)∧H b=some (.lst zs)∧xs.length+zs.length≤sizeLine∧∀ p,H p=none→Q (.ref p) (upd H p (.lst (xs++zs)))
theorem qxz:OpR X (binaryOp .Add) q4s:=by
 intro pins s σ H x y v u Q I rx ry h
 obtain ⟨l,b,xs,zs,rfl,rfl,hH,hB,hz,q⟩:=h
 cases rx
 cases ry
 obtain ⟨z,its,n,r,hl,e⟩:=I.lstM hH
 obtain ⟨z2,its2,n2,r2,hl2,e2⟩:=I.lstM hB
 refine PySem.P.add_list e e2 ?_ (by rw[List.size_toArray,List.size_toArray];omega)
 have ea:its.toArray++its2.toArray=(its++its2).toArray:=by simp
 rw[ea]
 exact⟨.ref _,_,I.lnew (t':=s.toks) (r.append r2) (by rw[List.length_append];omega),rfl,q _ I.fresh⟩
noncomputable def q4t:R2:=fun x y H Q=>∃ l k xs,x=.ref l∧y=.int k∧H l=some (.lst xs)∧ -(2 ^ 63)≤k∧k < 2 ^ 63∧xs.length * k.toNat≤sizeLine ∧
 ∀ p,H p=none→Q (.ref p) (upd H p (.lst (List.replicate k.toNat xs).flatten))
theorem len_rep {α:Type} (xs:List α) (k:Nat):(List.replicate k xs).flatten.length=k * xs.length:=by
 induction k with
 | zero=>simp
 | succ k ih=>rw[List.replicate_succ,List.flatten_cons,List.length_append,ih,Nat.succ_mul,Nat.add_comm]
theorem qx0:OpR X (binaryOp .Mult) q4t:=by
 intro pins s σ H x y v u Q I rx ry h
 obtain ⟨l,k,xs,rfl,rfl,hH,h1,h2,hz,q⟩:=h
 cases rx
 obtain ⟨t,rfl⟩:=ry
 obtain ⟨z,its,n,r,hl,e⟩:=I.lstM hH
 have hlen:its.toArray.size * k.toNat≤sizeLine:=by rw[List.size_toArray,← hl];exact hz
 have hcap:¬ its.toArray.size * k.toNat > (2 ^ 63 - 1) / 8:=by
   have:(sizeLine:Nat)≤(2 ^ 63 - 1) / 8:=by decide
   omega
 have hfit:¬ (!Builtin.List.listFitsIndex k)=true:=by
   rw[fitsIndex_both h1 h2]
   exact Bool.false_ne_true
 have hlong:¬ Builtin.List.listTooLong (its.toArray.size * k.toNat)=true:=by
   rw[qqw hlen]
   exact Bool.false_ne_true
 have hnew:List.foldl (fun x1 x2=>x1++x2) #[] (List.replicate (if its.toArray.isEmpty=true then 0 else k.toNat) its.toArray)=(List.replicate k.toNat its).flatten.toArray:=by
   have f0:∀ m:Nat,List.foldl (fun x1 x2=>x1++x2) #[] (List.replicate m its.toArray)=(List.replicate m its).flatten.toArray:=fun m=>by
     have:=foldl_rep its m []
     rw[List.nil_append]at this
     exact this
   rw[f0]
   cases its with
   | nil=>simp
   | cons a r'=>rw[if_neg (by simp)]
 refine wpAny_binaryOp_repeat_ref (T:="list") (U:="int") (by decide) ⟨_,e,rfl⟩ (fun s'=>typeIs_int s' k t) noFill_list_mul F.fills_int_mul F.slot_int_rmul repeat_list F.slot_int_index.lookup
   (call_meets F.slot_int_rmul (typeIs_int s k t) F.entry_int_rmul (F.args_int_rmul_2 _ _) (int___rmul___int_list k t l its.toArray n)
     ⟨e,rfl,⟨_,e,rfl⟩,call_meets F.slot_list_mul ⟨_,e,rfl⟩ F.entry_list_mul (F.args_list_mul_2 _ _) (AutoListH.list___mul___list_int_3 l its.toArray n k t hfit hcap hlong) ⟨e,?_⟩⟩)
 rw[hnew]
 exact⟨.ref _,_,I.lnew (t':=s.toks) (r.rep k.toNat) (by rw[len_rep,Nat.mul_comm];exact hz),rfl,q _ I.fresh⟩
end
end L2
namespace Att
open PySem PySem.W PySem.Calls PyProof.Rows
theorem qf6 {P:Params} {h:Heap}:∀ (ns:List Int) (vs:List Value),WellAll P h vs (ns.map WData.int)→IntsAre vs ns:=by
 intro ns
 induction ns with
 | nil =>
   intro vs w
   rw[List.map_nil]at w
   cases w
   exact .nil
 | cons n ns ih =>
   intro vs w
   rw[List.map_cons]at w
   cases w with
   | cons a b =>
     cases a
     exact .cons _ _ (ih _ b)
theorem qpb {l:OpenLaw} {n:Nat} (hn:l.most=some n) {P:Params} {h:Heap} {args:List WData} {vals:List Value}
   (hpre:l.row.toRowW.claim.pre args=true) (hwl:WellAll P h vals args) :
   ∃ a vs ns,vals=[Value.ref a]∧args=[WData.list (ns.map WData.int)]∧h.get? a=some { cls:=.type "list",data:=.seq vs.toArray }∧IntsAre vs ns∧ns.length≤n:=by
 have hsh:WShape.hasAll [] args [.list .int]=true:=(pre_splitW hpre).1
 have hc:l.pre.holds [] { args:=args }=true:=(pre_splitW hpre).2
 obtain ⟨d,r,rfl,h1,h2⟩:=hasAllW_cons hsh
 obtain rfl:=hasAllW_nil h2
 obtain ⟨xs,rfl,h3⟩:=hasW_list h1
 obtain ⟨ns,rfl⟩:=items_int h3
 have hlen:ns.length≤n:=by
   unfold OpenLaw.pre at hc
   have h4:(WTm.not (.lt (.lit (.int (n:Int))) (.len (.arg 0)))).holds [] { args:=[.list (ns.map .int)] }=true:=by
     have h4:=(holds_andW hc).1
     rw[hn]at h4
     exact h4
   have h5:=condW_of h4 (w_not (w_lt w_lit (w_len_list (w_arg rfl))))
   rw[List.length_map]at h5
   refine Nat.le_of_not_lt fun q=> ?_
   have q':(n:Int) < ((ns.length:Nat):Int):=by omega
   first
     | (rw[decide_eq_true q']at h5;exact absurd h5 (by decide))
     | (simp at h5;omega)
 cases hwl with
 | cons w1 w2 =>
   cases w2
   cases w1 with
   | list ho hall=>exact⟨_,_,ns,rfl,rfl,ho,qf6 ns _ hall,hlen⟩
theorem qpc (l:OpenLaw) (args:List WData):l.row.toRowW.claim.post args (.bool true) args=true :=
 postW_of (r:=l.row.toRowW) (X:=(true==true))
   (show WShape.has [] (.bool true) .bool=true by first | rfl | decide | simp [WShape.has,WShape.arms,WShape.armsAll])
   (show (WTm.eq .res (.lit (.bool true))).value [] { args:=args,res:=some (.bool true),after:=args }=some (.bool (true==true)) from w_eq_bool (w_res rfl) w_lit) rfl
theorem attach_call {l:OpenLaw} {n:Nat} {q:Program} {loose:List Str} {XP:(Str→Option Value)→Heap→Prop} {YP:World→Heap→Prop} {d:DefRec}
   (hn:l.most=some n) (hdf:d.params.defaults=[])
   (call:∀ (w:World) (s₀ s₁:Shared) (mg mb:Str→Option Value) (fa:Addr) (o:Obj) (pm cd doc:Value) (a:Addr) (vs:List Value) (ns:List Int),
     Ground q loose [] XP w s₀ mg mb s₁.heap→YP w s₁.heap →
     s₁.heap.get? fa=some o→o.data=.func (docDef d.name d.params d.body d.scope pm cd doc)→s₁.heap.CodeRec cd d.name→mg d.name=some (.ref fa) →
     s₁.heap.get? a=some { cls:=.type "list",data:=.seq vs.toArray }→IntsAre vs ns→ns.length≤n→s₁.gens= #[] →
     codeAny (model l.prog w) callerA (.call (.ref fa) ⟨[.ref a],[]⟩) (fun r s'=>r=.ok (.ret (.bool true))∧OldK s₁.heap s'.heap∧s'.os=s₁.os∧AllBare s'.gens) s₁) :
   WalkO q loose XP YP l.row.toRowW d [] (fun f vs=>PySem.call f vs):=by
 intro w s₀ s₁ mg mb G Y fa o pm cd doc dV kV ho hd hcd hD hmg hg args vals as hpre hlay hrd hwl hlo
 obtain rfl:dV=.none:=Dflts.none hD hdf
 obtain rfl:kV=.none:=Dflts.noKw hD
 obtain ⟨a,vs,ns,rfl,rfl,hobj,hints,hlen⟩:=qpb hn hpre hwl
 refine enter_call (codeAny_mono (call w s₀ s₁ mg mb fa o pm cd doc a vs ns G Y ho (fd_plain hd) hcd hmg hobj hints hlen hg) fun r s' hq=> ?_)
 obtain ⟨rfl,h2,h3,h4⟩:=hq
 exact⟨.inl ⟨.bool true,.bool true,[],rfl,fun _=>rfl,.bool true,qpc l _,fun _=>⟨List.Pairwise.nil,fun _ hm=>(nomatch hm)⟩⟩,h2,h3,h4⟩
end Att
namespace L2
open PySem PySem.Spec PyProof.Rows
theorem qiq:∀ {vs:List Value} {ns:List Int},IntsAre vs ns→Vals (ns.map V.int) vs
 | _,_,.nil=>.nil
 | _,_,.cons n t h=>.cons ⟨t,rfl⟩ (qiq h)
noncomputable def qx1 (H:Hp):Prop:=∀ b,H b=none∨∃ o xs,H b=some (.frz o (.lst xs))
theorem qqy {P:Program} {w:World} {K:PySem.W.Frag} {mg mb:Str→Option Value} {CX:CXT} {k:Nat} {fa a:Addr} {fd:FuncData} {x:Str} {sp:Sp} {s₁:Shared} {vs:List Value} {ns:List Int}
   (KX:K.In s₁.heap) (hns:s₁.heap.Ns mainGlobals mg) (hb:s₁.heap.Ns builtinsNs mb) (hbb:∀ x:Str,x ≠ "__name__"→mb x=bootBuiltins x) (hlim:s₁.heap.NoLimit) (hg:s₁.gens= #[])
   (ha:s₁.heap.get? a=some { cls:=.type "list",data:=.seq vs.toArray }) (hi:IntsAre vs ns) (hl:ns.length≤sizeLine) (hr:qam k callerA)
   (F:∀ base:Heap,K.In base→base.Ns mainGlobals mg→qap P w K mg base CX k fa fd [x] sp) (hbind:∀ (s:Shared) (u:Value),BindsTo s fd ⟨[u],[]⟩ [(x,u)])
   (hsp:∀ H:Hp,qx1 H→SqL K H a (ns.map V.int)→sp [.ref a] H (fun v _=>v=.bl true) fun _ _ _=>False)
   (hCX:∀ H e s',CX [] H s₁ (fun _ _ _=>False) e s'→False) :
   codeAny (model P w) callerA (.call (.ref fa) ⟨[.ref a],[]⟩) (fun r s'=>r=.ok (.ret (.bool true))∧OldK s₁.heap s'.heap∧s'.os=s₁.os∧AllBare s'.gens) s₁:=by
 have rv:=qiq hi
 have lenV:=hi.length
 have core :∀ H:Hp,qx1 H→SqL K H a (ns.map V.int)→HOk P w H s₁.heap→(∀ b,H b ≠ none→b=a)→(H a ≠ none→K.lookup a=none) →
     codeAny (model P w) callerA (.call (.ref fa) ⟨[.ref a],[]⟩) (fun r s'=>r=.ok (.ret (.bool true))∧OldK s₁.heap s'.heap∧s'.os=s₁.os∧AllBare s'.gens) s₁:=by
   intro H hO hS hok hA hK
   have base_of:∀ {b:Addr} {o:Obj},s₁.heap.get? b=some o→H b=none→(qjc s₁.heap H).get? b=some o:=fun e n=>qqj e n
   have noA:∀ {b:Addr} {o:Obj} {es:Array DictEntry} {ep:Nat},s₁.heap.get? b=some o→o.data=.dict es ep→H b=none:=fun {b o es ep} e d=>by
     cases q:H b with
     | none=>rfl
     | some u =>
       have e':b=a:=hA b (by rw[q];simp)
       subst e'
       rw[ha]at e;cases e
       have d':Data.seq vs.toArray _=Data.dict es ep:=d
       cases d'
   have nsK:∀ {b:Addr} {m:Str→Option Value},s₁.heap.Ns b m→(qjc s₁.heap H).Ns b m:=fun {b m} ⟨o,es,ep,e,d,r⟩=>⟨o,es,ep,base_of e (noA e d),d,r⟩
   have hKb:K.In (qjc s₁.heap H):=fun b o e=>base_of (KX b o e) (by
     cases q:H b with
     | none=>rfl
     | some u =>
       have e':b=a:=hA b (by rw[q];simp)
       subst e'
       rw[hK (by rw[q];simp)]at e;cases e)
   have hM:Mod K mg (qjc s₁.heap H):=⟨hKb,nsK hns,⟨mb,nsK hb,hbb⟩,let ⟨mc,h1,h2⟩:=hlim;⟨mc,nsK h1,h2⟩⟩
   have e0:qmr P w K mg (qjc s₁.heap H) callerA [] s₁ H:=⟨rfl,hM,fun b o e=>qtb e,Nat.le_of_eq (qox _ _),trivial,fun b hb=>absurd (show b ∈ ([]:List Addr) from hb) (by simp),hok,.of_eq hg⟩
   refine codeAny_mono ((F _ hKb (nsK hns)).run callerA [] s₁ H ⟨[.ref a],[]⟩ [.ref a] [.ref a] _ _ hr e0 (hbind s₁ (.ref a)) (.cons rfl .nil) (hsp H hO hS)) fun r s' h=> ?_
   cases r with
   | error e=>exact(hCX H e s' h).elim
   | ok fl =>
     cases fl with
     | next=>exact False.elim h
     | brk=>exact False.elim h
     | cont=>exact False.elim h
     | ret u =>
       obtain ⟨v,H',os,bare,un,hok',r',q⟩:=h
       have q':v=.bl true:=q
       subst q'
       obtain rfl:u=Value.bool true:=r'
       refine⟨rfl,OldK.of_keep fun b o e=> ?_,os,bare⟩
       cases q:H b with
       | none=>exact un.keep b o e q (by intro z;exact absurd (show b ∈ ([]:List Addr) from z) (by simp)) (by simp)
       | some u =>
         rcases hO b with z | ⟨ob,xs,z⟩
         · rw[q]at z;cases z
         · have z2:=un.frzs b ob _ z
           obtain ⟨e1,_⟩:=hok b _ z
           obtain ⟨e2,_⟩:=hok' b _ z2
           rw[e]at e1;cases e1
           exact e2
 cases hk:K.lookup a with
 | some o =>
   have e:=KX a o hk
   rw[ha]at e
   cases e
   refine core (fun _=>none) (fun _=>.inl rfl) (.inr ⟨_,vs.toArray,_,hk,rfl,rfl,rfl,by rw[List.size_toArray,lenV];exact hl,by simpa using rv⟩) (fun b u z=>by have z':(none:Option HO)=some u:=z;cases z') (fun b z=>absurd rfl z) fun z=>absurd rfl z
 | none =>
   refine core (fun b=>if b=a then some (.frz { cls:=.type "list",data:=.seq vs.toArray } (.lst (ns.map V.int)))else none) (fun b=> ?_) (.inl (.inr ⟨{ cls:=.type "list",data:=.seq vs.toArray },if_pos rfl⟩)) (fun b u z=> ?_) (fun b z=> ?_) fun _=>hk
   · by_cases hb:b=a
     · exact .inr ⟨_,_,if_pos hb⟩
     · exact .inl (if_neg hb)
   · by_cases hb:b=a
     · have z':=(if_pos hb).symm.trans z
       cases z'
       subst hb
       exact⟨ha,by rw[List.length_map];exact hl,vs,_,rv,ha⟩
     · have z':=(if_neg hb).symm.trans z
       cases z'
   · by_cases hb:b=a
     · exact hb
     · exact absurd (if_neg hb) z
theorem walk_of {l:PySem.W.OpenLaw} {n k:Nat} {q:Program} {loose:List Str} {XP:(Str→Option Value)→Heap→Prop} {YP:World→Heap→Prop} {d:DefRec} {K:Params→PySem.W.Frag} {CX:World→CXT} {sp:World→Sp} {x:Str}
   (hn:l.most=some n) (hn2:n≤sizeLine) (hdf:d.params.defaults=[]) (hr:qam k callerA)
   (hY:∀ (w:World) (h:Heap),YP w h→(K w.params).In h)
   (F:∀ (w:World) (mg:Str→Option Value) (fa:Addr) (h:Heap),(K w.params).In h→h.Ns mainGlobals mg→mg d.name=some (.ref fa) →
     ∃ fd:FuncData,(∀ (s:Shared) (u:Value),BindsTo s fd ⟨[u],[]⟩ [(x,u)]) ∧
       ∀ base:Heap,(K w.params).In base→base.Ns mainGlobals mg→qap l.prog w (K w.params) mg base (CX w) k fa fd [x] (sp w))
   (hsp:∀ (w:World) (H:Hp) (a:Addr) (ns:List Int),ns.length≤n→qx1 H→SqL (K w.params) H a (ns.map V.int)→sp w [.ref a] H (fun v _=>v=.bl true) fun _ _ _=>False)
   (hCX:∀ (w:World) (H:Hp) (s:Shared) (e:Value) (s':Shared),CX w [] H s (fun _ _ _=>False) e s'→False) :
   PySem.W.WalkO q loose XP YP l.row.toRowW d [] (fun f vs=>PySem.call f vs):=by
 refine Att.attach_call hn hdf fun w s₀ s₁ mg mb fa o pm cd doc a vs ns G Y ho hd hcd hmg hobj hints hlen hg=> ?_
 have KX:=hY w _ Y
 obtain ⟨fd,hb,hF⟩:=F w mg fa _ KX G.T.g hmg
 exact qqy KX G.T.g G.T.b G.T.builtins G.T.nolimit hg hobj hints (Nat.le_trans hlen hn2) hr hF hb (fun H hO hS=>hsp w H a ns hlen hO hS) fun H e s'=>hCX w H s₁ e s'
noncomputable def qar (s:Stmt):Arguments:=match s with
 | .FunctionDef _ a _ _ _ _ _ _ _ _=>a
 | _=>{ posonlyargs:=[],args:=[],vararg:=none,kwonlyargs:=[],kw_defaults:=[],kwarg:=none,defaults:=[] }
noncomputable def qo (s:Stmt):List Stmt:=match s with
 | .FunctionDef _ _ b _ _ _ _ _ _ _=>b
 | _=>[]
noncomputable def qa (s:Stmt):Scope:=match s with
 | .FunctionDef _ _ _ _ _ _ sc _ _ _=>sc
 | _=>{ kind:=.function,names:=[],isGenerator:=false,isCoroutine:=false }
noncomputable abbrev CX0:CXT:=fun _ _ _ _ _ _=>False
noncomputable abbrev E0:XK:=fun _ _ _=>False
theorem q1w {X:Cx}:Passes CX0 X E0:=fun _ _ _ _ _ _ _ h=>h.elim
structure Fun (K:PySem.W.Frag) (x qual:Str) (st:Stmt) (f:Addr) (fd:FuncData):Prop where
 ex:∃ (oc:Value) (od:Option Addr) (kV doc pm:Value) (an:Option Addr) (cdv ct:Value) (osl:Array (Option Value)),
   fd=PySem.W.fnOf x qual (qar st) (qo st) (qa st) .none kV doc pm an cdv ct∧K.lookup f=some ⟨oc,od,.func fd,osl⟩∧PySem.W.codeIn K cdv qual=true
 kp:PySem.W.keepIn K (.ref f)=true
section
variable {P:Program} {w:World} {K:PySem.W.Frag} {mg:Str→Option Value} {base:Heap}
theorem Fun.ok {x qual:Str} {st:Stmt} {f:Addr} {fd:FuncData} {N ps:List Str} {k:Nat} {sp:Sp} (F:Fun K x qual st f fd) (S:qaf N ps (qa st)) (len:∀ vs H Q E,sp vs H Q E→vs.length=ps.length)
   (hbody:∀ (cdv:Value) (A:Around) (outer:List Env) (s:Shared) (H:Hp) (vs:List V) (Q:VK) (E:XK),qam k (A.deeper (envOfC qual (qa st) s.heap.objs.size f cdv))→sp vs H Q E →
     ∃ t,PSs (qay CX0 P w K mg base N qual (qa st) f cdv A outer s H E).nox (qo st) t∧t { nx:=fun _ H'=>Q .non H',rt:=Q } (start N vs) H):qap P w K mg base CX0 (k+1) f fd ps sp:=by
 obtain ⟨oc,od,kV,doc,pm,an,cdv,ct,osl,rfl,lk,hcd⟩:=F.ex
 refine qnv lk hcd S len fun A outer s H vs Q E hr hsp=> ?_
 obtain ⟨t,h,q⟩:=hbody cdv A outer s H vs Q E hr hsp
 exact⟨t,h.nox,q⟩
theorem qe0 {x qual:Str} {st:Stmt} {f:Addr} {oc:Value} {od an:Option Addr} {osl:Array (Option Value)} {kV doc pm cdv ct:Value} (l:K.lookup f=some ⟨oc,od,.func (PySem.W.fnOf x qual (qar st) (qo st) (qa st) .none kV doc pm an cdv ct),osl⟩)
   (c:PySem.W.codeIn K cdv qual=true) (k:PySem.W.keepIn K (.ref f)=true):Fun K x qual st f (PySem.W.fnOf x qual (qar st) (qo st) (qa st) .none kV doc pm an cdv ct):=⟨⟨oc,od,kV,doc,pm,an,cdv,ct,osl,rfl,l,c⟩,k⟩
end
theorem qbw {n:Nat} (h:n≤1000):n < sizeLine:=Nat.lt_of_le_of_lt h (by decide)
section
variable {X:Cx}
theorem pv (i:Nat) {x:Str} {pos:Pos} (hN:X.N[i]? =some x:=by rfl) (hv:Vis X.env.scope x:=by first | exact Or.inl rfl | exact Or.inr (Or.inl rfl) | exact Or.inr (Or.inr rfl)) (hd:(x==("__debug__":Str))=false:=by decide)
   (hcd:(x==("__classdict__":Str))=false:=by decide):PE X (.Name x pos) (qgo i):=qex hN hv hd hcd
end
noncomputable def qdt (H H':Hp):Prop:=∀ b o,H b=some o→H' b=some o
theorem qdt.trans {H H1 H2:Hp} (a:qdt H H1) (b:qdt H1 H2):qdt H H2:=fun c o h=>b c o (a c o h)
theorem qdt.free {H H':Hp} (e:qdt H H') {l:Addr} (h:H' l=Option.none):H l=Option.none:=by
 cases q:H l with
 | none=>rfl
 | some o =>
   rw[e l o q]at h
   cases h
structure Fn (P:Program) (w:World) (K:PySem.W.Frag) (mg:Str→Option Value) (base:Heap) (x:Str) (ps:List Str) (k:Nat) (sp:Sp):Prop where
 ex:∃ (f:Addr) (fd:FuncData),qap P w K mg base CX0 k f fd ps sp∧mg x=some (.ref f)∧PySem.W.keepIn K (.ref f)=true∧Binds K fd ps []
section
variable {X:Cx} {x:Str} {ps:List Str} {k k':Nat} {sp:Sp} {p pos:Pos} {e:Expr} {es:List Expr} {t:TA}
theorem q1x (F:Fn X.prog X.w X.K X.mg X.base x ps k sp) (hr:qam k' X.A) (hk:k≤k') (hg:Gl X x) (ha:PA X (e::es) t) (hdb:(x==("__debug__":Str))=false:=by decide)
   (he:starEach (e::es) X.env=(false,eval e X.env)::starEach es X.env:=by rfl) (hpl:(backTo pos (starEach es X.env)).any (·.1)=false:=by rfl) :
   PE X (.Call (.Name x p) (e::es) [] pos) (qnt sp [] E0 t):=by
 obtain ⟨f,fd,G,hm,hkp,hb⟩:=F.ex
 exact qnu G (hr.mono hk) hg hm hkp hb .nil q1w ha hdb he hpl
end
theorem qgc:bootBuiltins "list"=some (.type "list"):=by decide +kernel
theorem qk3:bootBuiltins "tuple"=some (.type "tuple"):=by decide +kernel
theorem qtu:bootBuiltins "bool"=some (.type "bool"):=by decide +kernel
theorem qqz:bootBuiltins "int"=some (.type "int"):=by decide +kernel
theorem qq0:bootBuiltins "str"=some (.type "str"):=by decide +kernel
theorem qtv:bootBuiltins "dict"=some (.type "dict"):=by decide +kernel
theorem qx2:bootBuiltins "set"=some (.type "set"):=by decide +kernel
theorem qjl:bootBuiltins "enumerate"=some (.type "enumerate"):=by decide +kernel
theorem qx3:bootBuiltins "zip"=some (.type "zip"):=by decide +kernel
theorem qmx:bootBuiltins "len"=some (.builtin "len"):=by decide +kernel
theorem qx4:bootBuiltins "min"=some (.builtin "min"):=by decide +kernel
theorem qx5:bootBuiltins "max"=some (.builtin "max"):=by decide +kernel
theorem qx6:bootBuiltins "sum"=some (.builtin "sum"):=by decide +kernel
theorem qx7:bootBuiltins "all"=some (.builtin "all"):=by decide +kernel
theorem qx8:bootBuiltins "any"=some (.builtin "any"):=by decide +kernel
theorem qpd:bootBuiltins "sorted"=some (.builtin "sorted"):=by decide +kernel
theorem qb8:bootBuiltins "isinstance"=some (.builtin "isinstance"):=by decide +kernel
section
variable {X:Cx}
noncomputable def q4u (K:PySem.W.Frag):List V→Hp→VK→Prop:=fun xs H Q=>∃ x n t b,xs=[x,.ty n]∧qeh K H x t∧PySem.W.kitOne K t (.type n)=some b∧Q (.bl b) H
theorem qq1:qx X (.builtin "isinstance") (q4u X.K):=by
 intro pins s σ H xs us Q I r h
 obtain ⟨x,n,t,b,rfl,ty,e,q⟩:=h
 cases r with
 | cons r1 r =>
   cases r with
   | cons r2 r =>
     cases r
     obtain rfl:=(show _=Value.type n from r2)
     exact qo8 I r1 ty e fun tk=>⟨.bl b,H,I.tok _,rfl,q⟩
end
example (K:PySem.W.Frag):PySem.W.kitOne K (.type "int") (.type "list")=some false:=by rfl
example (K:PySem.W.Frag):PySem.W.kitOne K (.type "int") (.type "int")=some true:=by rfl
example (K:PySem.W.Frag):PySem.W.kitOne K (.type "bool") (.type "int")=some true:=by rfl
example (K:PySem.W.Frag):PySem.W.kitOne K (.type "list") (.type "tuple")=some false:=by rfl
example (K:PySem.W.Frag):PySem.W.kitOne K (.type "NoneType") (.type "str")=some false:=by rfl
section
variable {X:Cx}
theorem of_rcne {A:Around} {s:Shared} {prog:Program} {w:World} {E:Value→Shared→Prop} {Q:Value→Shared→Prop} {a b:Value} {k:Bool} (h:SeqAt.RcNeAt A s a b k) (hq:Q (.bool k) s):wpAny (model prog w) A (compareOp .NotEq a b) Q E s:=h prog w E Q hq
end
theorem qdt.upd {H:Hp} {p:Addr} {o:HO} (h:H p=none):qdt H (L2.upd H p o):=fun c u e=>by rw[qc (qu e h)];exact e
theorem q1y {P:Program} {w:World} {K:PySem.W.Frag} {mg:Str→Option Value} {base:Heap} {x:Str} {ps:List Str} {k:Nat} {sp:Sp} {f:Addr} {fd:FuncData} (F:qap P w K mg base CX0 k f fd ps sp) (m:mg x=some (.ref f)) (kp:PySem.W.keepIn K (.ref f)=true) (b:Binds K fd ps []):Fn P w K mg base x ps k sp:=⟨f,fd,F,m,kp,b⟩
section
variable {X:Cx}
noncomputable def qdm (i j:Int):Prop:=0 < j∧j < 1606938044258990275541962092341162602522202993782792835301376
theorem qdm.ok {i j:Int} (h:qdm i j):Builtin.divisionGoesByPylong i j=false:=by
 refine PyProof.noPylong_of_log2 ?_
 have h1:j.natAbs < 2 ^ 200:=by have:=h.1;have:=h.2;omega
 have h2:j.natAbs ≠ 0:=by have:=h.1;omega
 have:=(Nat.log2_lt h2).mpr h1
 omega
theorem qq2:OpR X (binaryOp .FloorDiv) (rI qdm fun i j=>.int (i / j)):=opI fun i j _ _ _ _ _ hc q=>by
 refine floordiv_int (by have:=hc.1;omega) ?_ (.inl hc.ok)
 rw[Int.fdiv_eq_ediv_of_nonneg _ (Int.le_of_lt hc.1)]
 exact q
theorem qq3:qkx X (qxs X.K):=by
 intro pins s σ H x y v u Q I rx ry h
 obtain ⟨p,xs,i,z,rfl,rfl,hq,he,q⟩:=h
 cases rx
 obtain ⟨t,rfl⟩:=ry
 obtain ⟨its,r,pl,hz⟩:=I.list hq
 obtain ⟨j,h1,h2,h3,h4,h5⟩:=qga he
 obtain ⟨w,ew,rw'⟩:=r.get h2
 have hl:=r.length
 have hn:=qcv
 have fin:EP X pins σ Q w s:=⟨z,H,I,rw',q⟩
 by_cases h0:0≤i
 · have hj:i.toNat=j:=by
     rw[seqIndex_of h0 h5]at h1
     exact Option.some.inj h1
   exact wpAny_getItem_list pl.isList h0 (by omega) (by rw[hj];simpa using ew) fin
 · have hj:(i+(its.toArray.size:Int)).toNat=j:=by
     rw[seqIndex_neg (by omega) h4]at h1
     rw[List.size_toArray,← hl]
     exact Option.some.inj h1
   exact wpAny_getItem_list_neg pl.isList (by omega) (by rw[List.size_toArray] <;> omega) (by omega) (by rw[hj];simpa using ew) fin
end
theorem qpe (ns:List Int) (lo hi:Option Int):∃ ms:List Int,qf5 (ns.map V.int) lo hi=ms.map V.int :=
 ⟨(ns.drop (HT.sIx (ns.map V.int).length 0 lo)).take (HT.sIx (ns.map V.int).length (ns.map V.int).length hi - HT.sIx (ns.map V.int).length 0 lo),by unfold qf5;rw[← List.map_drop,← List.map_take]⟩
noncomputable def qb3 (env:Env):List (Str × NameKind)→List (Str × Addr)→List (Str × Addr)
 | [],cs=>cs
 | (n,k)::r,cs=>qb3 env r (if k==.free then (n,(env.cells.lookup n).getD 0)::cs else cs)
noncomputable def clo (scope:Scope) (env:Env):List (Str × Addr):=qb3 env scope.names []
theorem qfp (env:Env):∀ (names:List (Str × NameKind)) (cs:List (Str × Addr)),(∀ y ∈ names,y.2=.free→∃ c,env.cells.lookup y.1=some c) →
   (forIn names cs (fun (x:Str × NameKind) (r:List (Str × Addr))=>do
     let cs:=r
     if x.2==NameKind.free then do
       let c ← cellOf env x.1
       let cs:=(x.1,c)::cs
       pure PUnit.unit
       pure (ForInStep.yield cs)
     else do
       pure PUnit.unit
       pure (ForInStep.yield cs)):Sem (List (Str × Addr)))=pure (qb3 env names cs)
 | [],cs,_=>rfl
 | (n,k)::r,cs,h=>by
   have ih:=fun cs=>qfp env r cs (fun y hy=>h y (List.mem_cons_of_mem _ hy))
   rw[List.forIn_cons]
   by_cases hk:k=.free
   · subst hk
     obtain ⟨c,e⟩:=h (n,.free) List.mem_cons_self rfl
     have e1:cellOf env n=pure c:=by unfold cellOf;rw[e]
     simp only [beq_self_eq_true,if_true,e1,pure_bind]
     rw[ih]
     show _=pure (qb3 env r (if (NameKind.free==NameKind.free)=true then _ else _))
     rw[if_pos (by rfl),e]
     rfl
   · have hb:(k==NameKind.free)=false:=by simpa using hk
     simp only [hb,Bool.false_eq_true,if_false,pure_bind]
     rw[ih]
     show _=pure (qb3 env r (if (k==NameKind.free)=true then _ else _))
     rw[hb]
     rfl
theorem qgs {scope:Scope} {env:Env} (h:∀ y ∈ scope.names,y.2=.free→∃ c,env.cells.lookup y.1=some c):closureFor scope env=pure (clo scope env):=by
 unfold closureFor
 have:=qfp env scope.names [] h
 simp only [pure_bind,bind_pure]at this ⊢
 exact this
theorem qfq (env:Env):∀ (names:List (Str × NameKind)) (cs:List (Str × Addr)) (x:Str) (c:Addr),(∀ y ∈ names,y.2=.free→∃ c,env.cells.lookup y.1=some c)→(qb3 env names cs).lookup x=some c →
   (cs.lookup x=some c∨env.cells.lookup x=some c)
 | [],cs,x,c,_,h=>.inl h
 | (n, k)::r,cs,x,c,hh,h=>by
   have ih:=qfq env r (if k==.free then (n,(env.cells.lookup n).getD 0)::cs else cs) x c (fun y hy=>hh y (List.mem_cons_of_mem _ hy)) h
   rcases ih with ih | ih
   · by_cases hk:k=.free
     · subst hk
       rw[if_pos (by rfl)]at ih
       obtain ⟨d,e⟩:=hh (n,.free) List.mem_cons_self rfl
       by_cases hx:x=n
       · subst hx
         simp [List.lookup_cons]at ih
         rw[e]at ih
         right
         rw[e]
         simpa using ih
       · have:(x==n)=false:=by simpa using hx
         simp only [List.lookup_cons,this]at ih
         exact .inl ih
     · have hb:(k==NameKind.free)=false:=by simpa using hk
       rw[hb]at ih
       exact .inl ih
   · exact .inr ih
theorem qck {scope:Scope} {env:Env} {x:Str} {c:Addr} (hh:∀ y ∈ scope.names,y.2=.free→∃ c,env.cells.lookup y.1=some c) (h:(clo scope env).lookup x=some c):env.cells.lookup x=some c:=by
 rcases qfq env scope.names [] x c hh h with z | z
 · simp at z
 · exact z
theorem qel (env:Env):∀ (names:List (Str × NameKind)) (cs:List (Str × Addr)) (x:Str),(∃ c,cs.lookup x=some c)→∃ c,(qb3 env names cs).lookup x=some c
 | [],cs,x,h=>h
 | (n,k)::r,cs,x,h=>by
   refine qel env r _ x ?_
   by_cases hk:(k==NameKind.free)=true
   · rw[if_pos hk,List.lookup_cons]
     cases x==n with
     | true=>exact⟨_,rfl⟩
     | false=>exact h
   · rw[if_neg hk];exact h
theorem qcw (env:Env):∀ (names:List (Str × NameKind)) (cs:List (Str × Addr)) (x:Str),(x,NameKind.free) ∈ names→∃ c,(qb3 env names cs).lookup x=some c
 | [],cs,x,h=>by simp at h
 | (n,k)::r,cs,x,h=>by
   rcases List.mem_cons.mp h with h | h
   · cases h
     refine qel env r _ _ ?_
     rw[if_pos (by rfl),List.lookup_cons]
     simp
   · exact qcw env r _ x h
theorem qbt {scope:Scope} {env:Env} {x:Str} {k:NameKind} (h:(relabel scope env).names.lookup x=some k):(x,k) ∈ scope.names∨(k=.cell∧(x,NameKind.free) ∈ scope.names):=by
 have hm:=PySem.mem_of_lookup h
 unfold relabel at hm
 obtain ⟨⟨n,k'⟩,h1,h2⟩:=List.mem_map.mp hm
 dsimp only at h2
 by_cases hc:(k'==NameKind.free && env.scope.kind==.function && env.kindOf n==some .cell)=true
 · rw[if_pos hc]at h2
   cases h2
   simp only [Bool.and_eq_true,beq_iff_eq]at hc
   obtain ⟨⟨rfl,_⟩,_⟩:=hc
   exact .inr ⟨rfl,h1⟩
 · rw[if_neg hc]at h2
   cases h2
   exact .inl h1
theorem qz:∀ (names:List (Str × NameKind)) (n:Nat) (acc:List (Str × Addr)),cellsFrom n names acc=cellsFrom n names []++acc
 | [],n,acc=>rfl
 | (x,k)::r,n,acc=>by
   by_cases hk:(k==NameKind.cell)=true
   · have e:∀ a,cellsFrom n ((x,k)::r) a=cellsFrom (n+1) r ((x,n)::a):=fun a=>by rw[cellsFrom,if_pos hk]
     rw[e,e,qz r (n+1) ((x,n)::acc),qz r (n+1) [(x,n)],List.append_assoc]
     rfl
   · have e:∀ a,cellsFrom n ((x,k)::r) a=cellsFrom n r a:=fun a=>by rw[cellsFrom,if_neg hk]
     rw[e,e]
     exact qz r n acc
theorem qb9:∀ {names:List (Str × NameKind)} {n:Nat} {x:Str} {a:Addr},(x,a) ∈ cellsFrom n names []→(x,NameKind.cell) ∈ names
 | [],n,x,a,h=>by simp [cellsFrom]at h
 | (y, k)::r,n,x,a,h=>by
   by_cases hk:(k==NameKind.cell)=true
   · rw[cellsFrom,if_pos hk,qz]at h
     rcases List.mem_append.mp h with z | z
     · exact List.mem_cons_of_mem _ (qb9 z)
     · have z:(x,a)=(y,n):=by simpa using z
       cases z
       have:k=.cell:=by simpa using hk
       subst this
       exact List.mem_cons_self
   · rw[cellsFrom,if_neg hk]at h
     exact List.mem_cons_of_mem _ (qb9 h)
theorem qbx {α:Type} (x:Str):∀ (l m:List (Str × α)),(l++m).lookup x=(l.lookup x).or (m.lookup x)
 | [],m=>rfl
 | (y,a)::l,m=>by
   rw[List.cons_append,List.lookup_cons,List.lookup_cons,qbx x l m]
   cases x==y <;> rfl
theorem qbj:∀ {names:List (Str × NameKind)} {n:Nat} {x:Str},(x,NameKind.cell) ∈ names→∃ a,(cellsFrom n names []).lookup x=some a
 | [],n,x,h=>by simp at h
 | (y, k)::r,n,x,h=>by
   by_cases hk:(k==NameKind.cell)=true
   · rw[cellsFrom,if_pos hk,qz,qbx]
     rcases List.mem_cons.mp h with z | z
     · cases z
       cases q:(cellsFrom (n+1) r []).lookup y with
       | some a=>exact⟨a,rfl⟩
       | none=>exact⟨n,by simp [List.lookup_cons]⟩
     · obtain ⟨a,e⟩:=qbj (n:=n+1) z
       exact⟨a,by rw[e];rfl⟩
   · rw[cellsFrom,if_neg hk]
     rcases List.mem_cons.mp h with z | z
     · cases z;simp at hk
     · exact qbj z
theorem qdu {M:Model} {A:Around} {E:Value→Shared→Prop} {scope:Scope} {cl:List (Str × Addr)} {env:Env} {Q:Env→Shared→Prop} {s:Shared}
   (h:Q { scope:=scope,locals:=s.heap.objs.size,globals:=env.globals,cells:=cellsFrom (s.heap.objs.size+1) scope.names cl,qual:=env.qual,func:=none,code:=env.code,frame:=env.frame,builtins:=env.builtins } { s with heap:=pushCells (s.heap.push { cls:=.type "dict",data:=.dict #[] }) scope.names }) :
   wpAny M A (newFunctionEnv scope env.globals cl [] env.qual none .none (some env)) Q E s:=by
 simp only [newFunctionEnv,Option.isSome_some,if_true]
 refine wpAny_bind (wpAny_alloc ?_)
 refine wpAny_bind (wpAny_layCells _ (fun name kind cells=>by cases hkc:kind==NameKind.cell <;> simp [hkc]) _ _ _ _ ?_)
 rw[show ({ s with heap:=s.heap.push { cls:=.type "dict",data:=.dict #[] } }:Shared).heap.objs.size=s.heap.objs.size+1 from Heap.size_push ..]
 rw[List.forIn_nil]
 exact wpAny_bind (wpAny_pure (wpAny_pure h))
noncomputable def cxC (X:Cx) (ts M:List Str) (scope:Scope) (C:Addr) (fp:List Addr) (s₀:Shared) (H₀:Hp):Cx :=
 { X with N:=ts++M,s₀:=s₀,H₀:=H₀,env:=compEnvC scope (cellsFrom (C+1) scope.names (clo scope X.env)) C X.env,outer:=X.stack,ex:=fp,fn:=fun x=>scope.names.lookup x==some .cell,pn:=[],xe:=fun _ _=>False }
structure qah (X:Cx) (ts M:List Str) (scope:Scope):Prop where
 kind:scope.kind=.function
 cell:∀ x ∈ M,(x,NameKind.cell) ∉ scope.names
 loc:∀ y ∈ scope.names,y.2=.local→scope.names.lookup y.1=some .local
 fr:∀ y ∈ scope.names,y.2=.free→X.env.kindOf y.1=some .cell∨X.env.kindOf y.1=some .free
 own:∀ x ∈ M,(x,NameKind.local) ∉ scope.names
 nd:(ts++M).Nodup
 len:M.length=X.N.length
 seen:∀ (i:Nat) (x:Str) (k:NameKind),M[i]? =some x→(x,k) ∈ scope.names→X.N[i]? =some x
noncomputable def qe1 (N:List Str) (sc:Scope) (ts M:List Str) (scope:Scope):Bool :=
 scope.kind==.function && scope.names.all (fun y=>(y.2 != .local || scope.names.lookup y.1==some .local) && (y.2 != .free || (sc.names.lookup y.1==some .cell || sc.names.lookup y.1==some .free))) &&
   M.all (fun x=>scope.names.all fun y=> !(y.1==x && (y.2==.local || y.2==.cell))) && decide (ts++M).Nodup && (decide (M.length=N.length) && (N.zip M).all fun p=>p.1==p.2 || scope.names.all fun y=> !(y.1==p.2))
theorem qdb {X:Cx} {N:List Str} {sc:Scope} {ts M:List Str} {scope:Scope} (hN:X.N=N) (hs:X.env.scope=sc) (h:qe1 N sc ts M scope=true):qah X ts M scope:=by
 subst hN hs
 unfold qe1 at h
 rw[Bool.and_eq_true,Bool.and_eq_true (decide (M.length=X.N.length))]at h
 obtain ⟨h,h5,h6⟩:=h
 simp only [Bool.and_eq_true,List.all_eq_true,decide_eq_true_eq,bne_iff_ne,Bool.or_eq_true,beq_iff_eq,Bool.not_eq_true',Bool.and_eq_false_imp]at h
 obtain ⟨⟨⟨h1,h2⟩,h3⟩,h4⟩:=h
 have h5:M.length=X.N.length:=of_decide_eq_true h5
 refine⟨h1,fun x hx hy=> ?_,fun y hy hk=> ?_,fun y hy hk=> ?_,fun x hx hy=> ?_,h4,h5,fun i x k hi hk=> ?_⟩
 · have:=h3 x hx (x,.cell) hy rfl
   simp at this
 · rcases (h2 y hy).1 with z | z
   · exact absurd hk z
   · exact z
 · rcases (h2 y hy).2 with z | z
   · exact absurd hk z
   · exact z
 · have:=h3 x hx (x,.local) hy rfl
   simp at this
 · have hl:i < M.length:=(List.getElem?_eq_some_iff.mp hi).1
   have hl2:i < X.N.length:=by omega
   have e2:X.N[i]? =some X.N[i]:=by simp [hl2]
   have hm:(X.N[i],x) ∈ X.N.zip M:=by
     refine List.mem_of_getElem? (i:=i) ?_
     rw[List.getElem?_zip_eq_some]
     exact⟨e2,hi⟩
   have:=List.all_eq_true.mp h6 _ hm
   rcases Bool.or_eq_true _ _ ▸ this with z | z
   · have z:X.N[i]=x:=by simpa using z
     rw[e2,z]
   · have:=List.all_eq_true.mp z _ hk
     simp at this
noncomputable def qir (scope sc:Scope):Scope :=
 { scope with names:=scope.names.map fun (n,k)=>if (k==.free && sc.kind==.function && sc.names.lookup n==some .cell)then (n,.cell)else (n,k) }
section
variable {X:Cx} {pins:List (Addr × Obj)} {σ:St} {H:Hp} {s:Shared} {ts M:List Str} {scope:Scope} {fp:List Addr}
theorem qah.has (c:qah X ts M scope) (ok:X.Ok):∀ y ∈ scope.names,y.2=.free→∃ a,X.env.cells.lookup y.1=some a:=fun y hy hk=>ok.has y.1 (c.fr y hy hk)
theorem qah.cellIn {x:Str} (h:(relabel scope X.env).names.lookup x=some .cell∨(relabel scope X.env).names.lookup x=some .free):(x,NameKind.free) ∈ scope.names∨(x,NameKind.cell) ∈ scope.names:=by
 rcases h with h | h
 · rcases qbt h with z | ⟨_,z⟩
   · exact .inr z
   · exact .inl z
 · rcases qbt h with z | ⟨z,_⟩
   · exact .inl z
   · cases z
structure qtw (scope:Scope) (C:Addr) (h₁:Heap):Prop where
 empty:∀ x a,(x,a) ∈ cellsFrom (C+1) scope.names []→h₁.IsCell a none∧ @LT.lt Nat _ C a
 apart:(cellsFrom (C+1) scope.names []).Pairwise fun x y=>x.2 ≠ y.2
theorem qad {env:Env} {C:Addr} {x:Str} {a:Addr} (h:(cellsFrom (C+1) scope.names (clo scope env)).lookup x=some a):(x,a) ∈ cellsFrom (C+1) scope.names []∨((cellsFrom (C+1) scope.names []).lookup x=none∧(clo scope env).lookup x=some a):=by
 rw[qz,qbx]at h
 cases e:(cellsFrom (C+1) scope.names []).lookup x with
 | some b =>
   rw[e]at h
   have:b=a:=by simpa using h
   subst this
   exact .inl (PySem.mem_of_lookup e)
 | none =>
   rw[e]at h
   exact .inr ⟨rfl,by simpa using h⟩
theorem Inv.comp (c:qah X ts M scope) (I:Inv X pins σ H s) (hf:∀ b ∈ fp,qci X pins H b) (ho:∀ b ∈ fp,b < s.heap.objs.size) {C:Addr} {h₁:Heap} {t':Nat} (hC:s.heap.objs.size≤C) (hn:h₁.Ns C fun _=>none) (hO:qtw scope C h₁) (k:∀ b u,s.heap.get? b=some u→h₁.get? b=some u) :
   Inv (cxC X ts M scope C fp s H) [] (List.replicate ts.length none++σ) H { s with heap:=h₁,toks:=t' }:=by
 have has:=c.has I.ok
 have sub:∀ x a,(clo scope X.env).lookup x=some a→X.env.cells.lookup x=some a:=fun x a h=>qck has h
 have low:∀ x a,(clo scope X.env).lookup x=some a→ @LT.lt Nat _ a C:=fun x a h=>by
   obtain ⟨v,q⟩:=I.cell x a (sub x a h)
   have:=q.lt
   exact Nat.lt_of_lt_of_le this hC
 have kept:=I.kept (t':=t') k
 refine⟨⟨I.ok.mod,c.kind,I.ok.glob,I.ok.blt,hC,fun x y a h1 h2=> ?_,fun x hx=> ?_,fun x a hx h=> ?_,I.ok.hd,I.ok.frames,.inl rfl,fun b hb=>⟨?_,fun x a h=> ?_⟩,I.bs,Nat.le_trans I.ok.bsz I.sz,fun b o e hb=> ?_,fun b hb z=> ?_,I.stack,I.stkFree⟩,
   rfl,I.bare,Un.kept k,⟨_,hn,fun i x v h1 h2 h3=> ?_⟩,fun x a h=> ?_,I.hok.fresh hC,fun x a h=> ?_,fun p hp=>by simp [cxC]at hp,I.hok.kept k,?_⟩
 · rcases qad h1 with z1 | ⟨_,z1⟩ <;> rcases qad h2 with z2 | ⟨_,z2⟩
   · exact PySem.name_of_addr hO.apart z1 z2
   · exact absurd (Nat.lt_trans (hO.empty _ _ z1).2 (low _ _ z2)) (Nat.lt_irrefl _)
   · exact absurd (Nat.lt_trans (hO.empty _ _ z2).2 (low _ _ z1)) (Nat.lt_irrefl _)
   · exact I.ok.inj x y a (sub x a z1) (sub y a z2)
 · show ∃ a,(cellsFrom (C+1) scope.names (clo scope X.env)).lookup x=some a
   rw[qz,qbx]
   rcases qah.cellIn hx with z | z
   · obtain ⟨a,e⟩:=qcw X.env scope.names [] x z
     cases (cellsFrom (C+1) scope.names []).lookup x with
     | some b=>exact⟨b,rfl⟩
     | none=>exact⟨a,e⟩
   · obtain ⟨a,e⟩:=qbj (n:=C+1) z
     exact⟨a,by rw[e];rfl⟩
 · have hx:(scope.names.lookup x==some NameKind.cell)=true:=hx
   have hx:scope.names.lookup x=some NameKind.cell:=by simpa using hx
   obtain ⟨b,e⟩:=qbj (n:=C+1) (PySem.mem_of_lookup hx)
   rcases qad h with z | ⟨z,_⟩
   · exact Nat.le_trans hC (Nat.le_of_lt (hO.empty _ _ z).2)
   · rw[e]at z;cases z
 · exact Nat.ne_of_lt (Nat.lt_of_lt_of_le (ho b hb) hC)
 · rcases qad h with z | ⟨_,z⟩
   · exact Nat.ne_of_gt (Nat.lt_trans (Nat.lt_of_lt_of_le (ho b hb) hC) (hO.empty _ _ z).2)
   · exact(hf b hb).2.2.2.2.1 x a (sub x a z)
 · rcases (hf b hb).2.2.2.1 with z | z
   · exact I.ok.noex b o e z
   · exact absurd (Nat.lt_of_lt_of_le (Heap.lt_size e) (Nat.le_trans I.ok.bsz z)) (Nat.lt_irrefl _)
 · rcases List.mem_cons.mp (I.stkSub b z)with e | e
   · exact(hf b hb).2.1 e
   · exact(hf b hb).2.2.1 e
 · -- a name of the def,seen in the block
   have hi:ts.length≤i:=by
     rcases Nat.lt_or_ge i ts.length with z | z
     · rw[List.getElem?_append_left (by simpa using z),List.getElem?_replicate]at h2
       split at h2 <;> cases h2
     · exact z
   have h0':M[i - ts.length]? =some x:=by
     have h1:(ts++M)[i]? =some x:=h1
     rwa [List.getElem?_append_right hi]at h1
   have h2':σ[i - ts.length]? =some (some v):=by
     rw[List.getElem?_append_right (by simpa using hi)]at h2
     simpa using h2
   have nC:=c.cell x (List.mem_of_getElem? h0')
   have hx:(x,NameKind.free) ∈ scope.names:=by
     rcases h3 with z | z
     · rcases qbt z with q | ⟨q,_⟩
       · exact absurd q (c.own x (List.mem_of_getElem? h0'))
       · cases q
     · rcases qah.cellIn z with q | q
       · exact q
       · exact absurd q nC
   have hk:=c.fr _ hx rfl
   have h1':=c.seen _ x _ h0' hx
   obtain ⟨m,hm,hl⟩:=I.loc
   have vis:Vis X.env.scope x:=by
     rcases hk with z | z
     · exact .inr (.inl z)
     · exact .inr (.inr z)
   obtain ⟨u,r,l⟩:=hl _ x v h1' h2' vis
   refine⟨u,r,.inr ⟨?_,?_⟩⟩
   · rcases h3 with z | z
     · rcases qbt z with q | ⟨q,_⟩
       · exact absurd q (c.own x (List.mem_of_getElem? h0'))
       · cases q
     · exact z
   · rcases l with ⟨l,_⟩ | ⟨_,a,ha,hcell⟩
     · exfalso
       rcases hk with z | z
       · rw[l]at z;cases z
       · rw[l]at z;cases z
     · obtain ⟨a',ha'⟩:=qcw X.env scope.names [] x hx
       have:X.env.cells.lookup x=some a':=sub x a' ha'
       rw[ha]at this;cases this
       obtain ⟨o,e,d⟩:=hcell
       refine⟨a,?_,o,k _ _ e,d⟩
       show (cellsFrom (C+1) scope.names (clo scope X.env)).lookup x=some a
       rw[qz,qbx]
       cases q:(cellsFrom (C+1) scope.names []).lookup x with
       | some b=>exact absurd (qb9 (PySem.mem_of_lookup q)) nC
       | none=>exact ha'
 · rcases qad h with z | ⟨_,z⟩
   · exact⟨none,(hO.empty _ _ z).1⟩
   · obtain ⟨v,o,e,d⟩:=I.cell x a (sub x a z)
     exact⟨v,o,k _ _ e,d⟩
 · rcases qad h with z | ⟨_,z⟩
   · exact I.hok.fresh (Nat.le_trans hC (Nat.le_of_lt (hO.empty _ _ z).2))
   · exact I.freeC x a (sub x a z)
 · show (List.replicate ts.length none++σ).length=(ts++M).length
   rw[List.length_append,List.length_append,List.length_replicate,I.len,c.len]
theorem Inv.comped {H':Hp} {s':Shared} {σ':St} {C D:Addr} {pins':List (Addr × Obj)} {ys:List V} (I:Inv X pins σ H s) (hf:∀ b ∈ fp,qci X pins H b) (J:Inv (cxC X ts M scope C fp s H) pins' σ' H' s') (hD:s.heap.objs.size≤D) (hD0:H' D=none) (hz:ys.length≤sizeLine) {its:List Value} {n:Nat} (rv:Vals ys its)
   (hl:s'.heap.get? D=some { cls:=.type "list",data:=.seq its.toArray n }):Inv X pins σ (upd H' D (.lst ys)) s':=by
 have u:=J.base
 have neD:∀ b o,s.heap.get? b=some o→b ≠ D:=fun b o e=>Nat.ne_of_lt (Nat.lt_of_lt_of_le (Heap.lt_size e) hD)
 have neH:∀ b o,H' b=some o→b ≠ D:=fun b o e z=>by rw[z,hD0]at e;cases e
 refine I.call' (ch:=fp) J.os ⟨u.keep,u.slot,fun b o e n hb=> ?_,u.there,fun b xs e=> ?_,fun b o w e=> ?_,fun b ps e=> ?_⟩ (fun b o e=> ?_) J.bare (fun b hb=>⟨(hf b hb).2.2.2.1,(hf b hb).2.1,(hf b hb).2.2.2.2.1,(hf b hb).2.2.2.2.2⟩)
 · rw[qc (neD b o e)];exact u.free b o e n hb
 · have q:=u.tups b xs e
   rw[qc (neH b _ q)];exact q
 · have q:=u.frzs b o w e
   rw[qc (neH b _ q)];exact q
 · obtain ⟨more,q⟩:=u.tbls b ps e
   exact⟨more,by rw[qc (neH b _ q)];exact q⟩
 · by_cases hb:b=D
   · subst hb
     rw[qg]at e;cases e
     exact⟨hz,its,n,rv,hl⟩
   · rw[qc hb]at e
     refine(J.hok b o e).stay (fun _ _ _ q=>q) (fun c q=> ?_) fun c xs q=> ?_
     · rw[qc (neH c _ q)];exact q
     · rw[qc (neH c _ q)];exact q
end
noncomputable def PF (X:Cx) (ifs:List Expr) (t:TT):Prop :=
 ∀ (pins:List (Addr × Obj)) (s:Shared) (σ:St) (H:Hp) (Q:Bool→Hp→Prop),Inv X pins σ H s→t σ H Q →
   wpAny (model X.prog X.w) X.A (forIn ifs true fun c r=>if r=true then do let ok ← isTrue c X.env (eval c X.env);pure (ForInStep.yield ok)else pure (ForInStep.yield r)) (TP X pins σ Q) X.xe s
noncomputable def q4v:TT:=fun _ H Q=>Q true H
theorem qx9 {X:Cx}:PF X [] q4v:=fun _ _ _ H _ I h=>wpAny_tests_nil ⟨H,I,h⟩
theorem qya {X:Cx} {c:Expr} {t:TT} (h:PT X c t):PF X [c] t:=fun pins s σ H Q I hq=>wpAny_tests_one (h pins s σ H Q I hq)
theorem qjm {prog:Program} {w:World} {A:Around} {R:Result→Shared→Prop} {elt target iter:Expr} {ifs:List Expr} {scope:Scope} {pos:Pos} {it acc:Value} {env:Env} {s:Shared} (I:Nat→Shared→Prop)
   (turn : ∀ n s,I n s→wpAny (model prog w) A (pyNext it) (fun r s₁=>match r with
     | none=>R (.ok .next) s₁
     | some v=>wpAny (model prog w) A (letOwnedTupleGo target it v) (fun _ s₁'=>wpAny (model prog w) A (assign target env v) (fun _ s₂ =>
         wpAny (model prog w) A (forIn ifs true fun c r=>if r=true then do let ok ← isTrue c env (eval c env);pure (ForInStep.yield ok)else pure (ForInStep.yield r)) (fun ok s₃ =>
           if ok=true then wpAny (model prog w) A (eval elt env) (fun x s₄ =>
             wpAny (model prog w) A (call (.builtin "list.append") [acc,x]) (fun _ s₅=>∃ m,m < n∧I m s₅) (fun _ _=>False) s₄) (fun _ _=>False) s₃
           else ∃ m,m < n∧I m s₃) (fun _ _=>False) s₂) (fun _ _=>False) s₁') (fun _ _=>False) s₁) (fun _ _=>False) s)
   (n:Nat) (h:I n s) :
   codeAny (model prog w) A (.compLoop (.ListComp elt [⟨target,iter,ifs,0⟩] scope pos) 0 it acc env) R s:=by
 refine codeAny_loop rfl I (fun n s hI=> ?_) n h
 show wpAny _ A ((compTurn (.ListComp elt [⟨target,iter,ifs,0⟩] scope pos) 0 it acc env).onRaise (fun x=>do noteFrame x env;theTreesLotGoes x)) _ _ s
 refine wpAny_noted ?_
 rw[compTurn_list]
 refine wpAny_bind (wpAny_standAt (wpAny_bind (wpAny_mono (turn n s hI) (fun r s₁ h₁=> ?_) fun _ _ h'=>h'.elim)))
 cases r with
 | none=>exact wpAny_pure h₁
 | some v =>
   refine wpAny_bind (wpAny_mono h₁ (fun _ s₁' h₁'=> ?_) fun _ _ h'=>h'.elim)
   refine wpAny_bind (wpAny_mono h₁' (fun _ s₂ h₂=>wpAny_bind (wpAny_mono h₂ (fun ok s₃ h₃=> ?_) fun _ _ h'=>h'.elim)) fun _ _ h'=>h'.elim)
   cases ok with
   | false=>exact wpAny_pure ⟨rfl,h₃⟩
   | true =>
     exact wpAny_bind (wpAny_bind (wpAny_mono h₃ (fun x s₄ h₄=>wpAny_bind (wpAny_mono h₄ (fun _ s₅ h₅=>wpAny_pure (wpAny_pure ⟨rfl,h₅⟩)) fun _ _ h'=>h'.elim)) fun _ _ h'=>h'.elim))
noncomputable def LcW (J:It) (n:Nat) (g:TG) (tt:TT) (te:TE) (σ:St) (H1:Hp) (Fin:List V→Hp→Prop):Prop :=
 ∃ W : Nat→Nat→List V→Hp→Prop,(∃ m,W 0 m [] H1)∧∀ i m ys H,W i m ys H→ys.length < sizeLine ∧
   ((J.stop i H∧Fin ys H) ∨
    (J.go i H∧∃ N:List V→Hp→Prop,(∀ ys' H',N ys' H'→∃ m',m' < m∧W (i+1) m' ys' H')∧∀ x H',J.yld i H x H'→g x (List.replicate n none++σ) H' fun σ2 H2=>σ2.drop n=σ∧tt σ2 H2 fun c H3 =>
       if c=true then te σ2 H3 fun y H4=>N (ys++[y]) H4 else N ys H3))
noncomputable def tLC (n:Nat) (wi:TI) (g:TG) (tt:TT) (te:TE):TE:=fun σ H Q=>wi σ H fun J H1=>LcW J n g tt te σ H1 fun ys H'=>∀ D,H' D=none→Q (.ref D) (upd H' D (.lst ys))
section
variable {X:Cx} {pins:List (Addr × Obj)} {σ:St} {H:Hp} {s:Shared} {ts M:List Str} {scope:Scope} {fp:List Addr}
theorem qk4 {tg iter elt:Expr} {ifs:List Expr} {pos:Pos} {g:TG} {tt:TT} {te:TE} (c:qah X ts M scope) (hc:X.calm=true) (hg:∀ C fp s₀ H₀,PG (cxC X ts M scope C fp s₀ H₀) tg g) (hf:∀ C fp s₀ H₀,PF (cxC X ts M scope C fp s₀ H₀) ifs tt)
   (he:∀ C fp s₀ H₀,PE (cxC X ts M scope C fp s₀ H₀) elt te) {it:Addr} {tn:Nat→Heap→Prop} {J:It} {Fin:List V→Hp→Prop} (I:Inv X pins σ H s) (T:Turn X.prog X.w X.K tg J fp it tn) (t0:tn 0 s.heap) (f0:∀ b ∈ fp,qci X pins H b) (hw:LcW J ts.length g tt te σ H Fin)
   {RR:Value→Addr→Result→Shared→Prop}
   (hRR:∀ (D C:Addr) (H':Hp) (s':Shared) (ys:List V) (m:Str→Option Value),Inv X pins σ (upd H' D (.lst ys)) s'→s'.heap.Ns C m→C ≠ X.env.locals→(∀ x a,X.env.cells.lookup x=some a→a ≠ C)→X.s₀.heap.objs.size≤C→upd H' D (.lst ys) C=none→(∀ p ∈ X.pn++pins,p.1 ≠ C)→H' D=none→Fin ys H'→RR (.ref D) C (.ok .next) s') :
   wpAny (model X.prog X.w) X.A (newList []) (fun acc s₃=>wpAny (model X.prog X.w) X.A (newFunctionEnv scope X.env.globals (clo scope X.env) [] X.env.qual none .none (some X.env)) (fun cenv s₄ =>
     codeAny (model X.prog X.w) X.A (.compStart (.ListComp elt [⟨tg,iter,ifs,0⟩] scope pos) 0 (.ref it) acc { cenv with scope:=relabel scope X.env }) (RR acc cenv.locals) s₄) X.xe s₃) X.xe s:=by
 obtain ⟨W,⟨m0,w0⟩,turn⟩:=hw
 have fpo:∀ b ∈ fp,b < s.heap.objs.size:=fun b hb=>by obtain ⟨o,e,_⟩:=T.obj _ _ t0 b hb;exact Heap.lt_size e
 refine wpAny_newObj_type (qdu ?_)
 dsimp only
 generalize hH2:s.heap.push { cls:=.type "list",dict:=none,data:=.seq ([]:List Value).toArray }=h2
 have hCs:h2.objs.size=s.heap.objs.size+1:=by rw[← hH2,Heap.size_push]
 obtain ⟨C,hCe⟩:∃ C:Nat,h2.objs.size=C:=⟨_,rfl⟩
 obtain ⟨D,hDe⟩:∃ D:Nat,s.heap.objs.size=D:=⟨_,rfl⟩
 have hns₁:=(Heap.Ns.new h2 (.type "dict")).keeps (pushCells_keeps scope.names (h2.push { cls:=.type "dict",data:=.dict #[] }))
 have ok:=cellsFrom_ok scope.names (h2.push { cls:=.type "dict",data:=.dict #[] }) (h2.objs.size+1) [] ⟨fun _ _ hm=>(nomatch hm),List.Pairwise.nil⟩ (by rw[Heap.size_push];exact Nat.le_refl _)
 rw[Heap.size_push]at ok
 rw[hCe]at hns₁ ok ⊢
 rw[hDe]
 rw[hCe,hDe]at hCs
 have hDC:D ≠ C:=by omega
 generalize hh1:pushCells (h2.push { cls:=.type "dict",data:=.dict #[] }) scope.names=h₁ at hns₁ ok ⊢
 have kp:∀ b o,h2.get? b=some o→h₁.get? b=some o:=fun b o e=>by rw[← hh1];exact pushCells_keeps _ _ b o (Heap.get?_push_of_some _ e)
 have old:∀ b u,s.heap.get? b=some u→h₁.get? b=some u:=fun b u e=>kp b u (hH2 ▸ Heap.get?_push_of_some _ e)
 have hacc:h₁.get? D=some { cls:=.type "list",data:=.seq ([]:List Value).toArray 0 }:=by
   refine kp _ _ ?_
   rw[← hH2,← hDe]
   exact Heap.get?_push_size _ rfl
 have hns:h₁.Ns C fun _=>none:=hns₁
 have hO:qtw scope C h₁:=⟨fun x a h=>⟨(ok.empty x a h).1,(ok.empty x a h).2⟩,ok.apart⟩
 have J0:Inv (cxC X ts M scope C fp s H) [] (List.replicate ts.length none++σ) H { s with heap:=h₁,toks:=s.toks }:=I.comp c f0 fpo (by omega) hns hO old
 have hDn:H D=none:=I.hok.fresh (by omega)
 have loop : codeAny (model X.prog X.w) X.A (.compLoop (.ListComp elt [⟨tg,iter,ifs,0⟩] scope pos) 0 (.ref it) (.ref D) (compEnvC scope (cellsFrom (C+1) scope.names (clo scope X.env)) C X.env)) (RR (.ref D) C) { s with heap:=h₁,toks:=s.toks }:=by
   refine qjm (fun n s'=>∃ (i:Nat) (σ':St) (H':Hp) (ys:List V) (its:List Value) (k:Nat),Inv (cxC X ts M scope C fp s H) [] σ' H' s'∧σ'.drop ts.length=σ∧tn i s'.heap∧(∀ b ∈ fp,H' b=none)∧H' D=none∧s'.heap.get? D=some { cls:=.type "list",data:=.seq its.toArray k }∧Vals ys its∧W i n ys H') ?_ m0
     ⟨0,_,H,[],[],0,J0,by rw[List.drop_append,List.drop_of_length_le (by simp)];simp,T.keep _ _ _ t0 fun b _ o e=>old b o e,fun b hb=>(f0 b hb).1,hDn,hacc,.nil,w0⟩
   rintro n s1 ⟨i,σ1,H1,ys,its,k,I1,d1,t1,fr1,hD1,hl1,rv1,w1⟩
   obtain ⟨hz,hturn⟩:=turn i n ys H1 w1
   have nDfp:D ∉ fp:=fun z=>by have: @LT.lt Nat _ D s.heap.objs.size:=fpo D z;omega
   have neC:∀ x a,(cellsFrom (C+1) scope.names (clo scope X.env)).lookup x=some a→a ≠ D:=fun x a h z=>by
     have z: @Eq Nat a D:=z
     rcases qad h with h | ⟨_,h⟩
     · have:=(hO.empty _ _ h).2
       omega
     · obtain ⟨v,q⟩:=I.cell x a (qck (c.has I.ok) h)
       have: @LT.lt Nat _ a s.heap.objs.size:=q.lt
       omega
   have pinD:∀ {H':Hp} {s':Shared} {obj:Obj},s'.heap.get? D=some obj→H' D=none→(∀ v,obj.data ≠ .cell v)→∀ p ∈ [(D,obj)],s'.heap.get? p.1=some p.2∧H' p.1=none∧p.1 ≠ (cxC X ts M scope C fp s H).env.locals∧p.1 ∉ (cxC X ts M scope C fp s H).fs∧∀ v,p.2.data ≠ .cell v:=by
     intro H' s' obj e1 e2 e3 p hp
     have hp:p=(D,obj):=by simpa using hp
     subst hp
     refine⟨e1,e2,hDC,fun z=> ?_,e3⟩
     have z:D ∈ frs X.stack:=z
     rcases List.mem_cons.mp (I.stkSub D z)with e | e
     · have: @LT.lt Nat _ X.env.locals s.heap.objs.size:=I.lt
       have e: @Eq Nat D X.env.locals:=e
       omega
     · exact I.nofs (a:=D) (by omega) e
   have I1':=I1.pins_of (pinD hl1 hD1 fun v z=>by cases z)
   have fpk:∀ {H':Hp},(∀ b ∈ fp,H' b=none)→∀ b ∈ fp,qci (cxC X ts M scope C fp s H) [(D,{ cls:=.type "list",data:=.seq its.toArray k })] H' b:=fun {H'} fr b hb=>by
     refine⟨fr b hb,fun z=> ?_,I1.ok.exfs b hb,.inl hb,fun x a h=> ?_,fun p hp=> ?_⟩
     · have: @LT.lt Nat _ b s.heap.objs.size:=fpo b hb
       have z: @Eq Nat b C:=z
       omega
     · rcases qad h with h | ⟨_,h⟩
       · have h1:=(hO.empty _ _ h).2
         have h2: @LT.lt Nat _ b s.heap.objs.size:=fpo b hb
         exact Nat.ne_of_gt (by omega)
       · exact(f0 b hb).2.2.2.2.1 x a (qck (c.has I.ok) h)
     · have hp:p=(D,{ cls:=.type "list",data:=.seq its.toArray k }):=by simpa [cxC]using hp
       subst hp
       rintro rfl
       exact nDfp hb
   rcases hturn with ⟨stop,fin⟩ | ⟨go,N,hN,step⟩
   · refine wpAny_mono (T.done (cxC X ts M scope C fp s H) rfl rfl rfl hc i _ s1 σ1 H1 (fun _ _=>False) I1' (fpk fr1) t1 stop) (fun r s2 ⟨hr,I2⟩=> ?_) fun _ _ z=>z
     subst hr
     have pD:=I2.pin (D,{ cls:=.type "list",data:=.seq its.toArray k }) (by simp)
     obtain ⟨m2,hn2,_⟩:=I2.loc
     refine hRR D C H1 s2 ys m2 (I.comped f0 I2 (by omega) hD1 (by omega) rv1 pD.1) hn2 ?_ (fun x a h=> ?_) ?_ ?_ (fun p hp=> ?_) hD1 fin
     · have: @LT.lt Nat _ X.env.locals s.heap.objs.size:=I.lt
       exact Nat.ne_of_gt (by omega)
     · obtain ⟨v,q⟩:=I.cell x a h
       have: @LT.lt Nat _ a s.heap.objs.size:=q.lt
       exact Nat.ne_of_lt (by omega)
     · have:=I.sz;omega
     · rw[qc (Ne.symm hDC)];exact I2.free
     · have: @LT.lt Nat _ p.1 s.heap.objs.size:=Heap.lt_size (I.pin p hp).1
       exact Nat.ne_of_lt (by omega)
   · refine wpAny_mono (T.item (cxC X ts M scope C fp s H) rfl rfl rfl hc i _ s1 σ1 H1 (fun _ _=>False) I1' (fpk fr1) t1 go) (fun r s2 ⟨u,hr,h2⟩=> ?_) fun _ _ z=>z
     subst hr
     refine wpAny_mono h2 (fun _ s3 ⟨x,H3,I3,r3,y3,t3,fr3⟩=> ?_) fun _ _ z=>z
     have I3':Inv (cxC X ts M scope C fp s H) _ (List.replicate ts.length none++σ) H3 s3:=(I3.pinned (fpk fr3) (T.obj _ _ t3)).weak (by
         have:=I3.len
         have e:σ1.length=(ts++M).length:=I3.len
         rw[List.length_append,List.length_replicate,I.len,e,List.length_append,c.len]) (fun j v e=>by
         have hj:ts.length≤j:=by
           rcases Nat.lt_or_ge j ts.length with z | z
           · rw[List.getElem?_append_left (by simpa using z),List.getElem?_replicate]at e
             split at e <;> cases e
           · exact z
         rw[List.getElem?_append_right (by simpa using hj)]at e
         rw[← d1,List.getElem?_drop]at e
         simp only [List.length_replicate]at e
         rwa [show ts.length+(j - ts.length)=j by omega]at e)
     refine wpAny_mono (hg C fp s H _ s3 _ H3 x u _ I3' r3 (step x H3 y3)) (fun _ s4 ⟨σ4,H4,I4,d4,q4⟩=> ?_) fun _ _ z=>z
     refine wpAny_mono (hf C fp s H _ s4 σ4 H4 _ I4 q4) (fun ok s5 ⟨H5,I5,q5⟩=> ?_) fun _ _ z=>z
     have keepT:∀ {σ7:St} {H7:Hp} {s7:Shared},Inv (cxC X ts M scope C fp s H) ([(D,{ cls:=.type "list",data:=.seq its.toArray k })]++qcj fp s3.heap) σ7 H7 s7→tn (i+1) s7.heap∧(∀ b ∈ fp,H7 b=none):=fun {σ7 H7 s7} I7 =>
       ⟨T.keep _ _ _ t3 fun b hb o e=>(I7.pin (b,o) (List.mem_append_right _ (List.mem_append_right _ (qag hb e)))).1,fun b hb=>by
         obtain ⟨o,e,_⟩:=T.obj _ _ t3 b hb
         exact(I7.pin (b,o) (List.mem_append_right _ (List.mem_append_right _ (qag hb e)))).2.1⟩
     cases ok with
     | false =>
       rw[if_neg Bool.false_ne_true]at q5 ⊢
       obtain ⟨m',hm,w'⟩:=hN _ _ q5
       have pD:=I5.pin (D,{ cls:=.type "list",data:=.seq its.toArray k }) (by simp)
       exact⟨m',hm,i+1,σ4,H5,ys,its,k,I5.pins_of (fun p hp=>by simp at hp),d4,(keepT I5).1,(keepT I5).2,pD.2.1,pD.1,rv1,w'⟩
     | true =>
       rw[if_pos rfl]at q5 ⊢
       refine wpAny_mono (he C fp s H _ s5 σ4 H5 _ I5 q5) (fun v s6 ⟨y,H6,I6,r6,q6⟩=> ?_) fun _ _ z=>z
       obtain ⟨m',hm,w'⟩:=hN _ _ q6
       have pD:=I6.pin (D,{ cls:=.type "list",data:=.seq its.toArray k }) (by simp)
       have hlen:=rv1.length
       refine call_meets F.slot_list_append ⟨_,pD.1,rfl⟩ F.entry_list_append (F.args_list_append_2 _ _) (PySem.list_append D its.toArray k v (by rw[List.size_toArray];omega)) ⟨pD.1,?_⟩
       have q:=PySem.IsL.update pD.1 (·.push v)
       rw[show its.toArray.push v=(its++[v]).toArray by simp]at q
       have up:∀ b o,b ≠ D→s6.heap.get? b=some o→(s6.heap.update D (Obj.mapSeq (·.push v))).get? b=some o:=fun b o hb e=>(Heap.get?_update_other s6.heap (Obj.mapSeq (·.push v)) (Ne.symm hb)).trans e
       have I7:Inv (cxC X ts M scope C fp s H) [] σ4 H6 { s6 with heap:=s6.heap.update D (Obj.mapSeq (·.push v)),toks:=s6.toks } :=
         (I6.pins_of (pins':=[]) (fun p hp=>by simp at hp)).turned up pD.2.1 hDC (.inr (by show s.heap.objs.size≤D;omega)) (fun x a h=>neC x a h) (fun p hp=>by simp [cxC]at hp)
       refine⟨m',hm,i+1,σ4,H6,ys++[y],its++[v],_,I7,d4,?_,(keepT I6).2,pD.2.1,q,rv1.append (.cons r6 .nil),w'⟩
       exact T.keep _ _ _ (keepT I6).1 fun b hb o e=>up b o (fun z=>nDfp (z ▸ hb)) e
 exact codeAny_compStart_list loop (T.self _ 0 _ _ _ (T.keep _ _ _ t0 fun b _ o e=>old b o e) loop)
theorem q1z {tg iter elt:Expr} {ifs:List Expr} {pos:Pos} {wi:TI} {g:TG} {tt:TT} {te:TE} (c:qah X ts M scope) (hc:X.calm=true) (hi:PI X tg iter wi) (hg:∀ C fp s₀ H₀,PG (cxC X ts M scope C fp s₀ H₀) tg g) (hf:∀ C fp s₀ H₀,PF (cxC X ts M scope C fp s₀ H₀) ifs tt)
   (he:∀ C fp s₀ H₀,PE (cxC X ts M scope C fp s₀ H₀) elt te) (hs:∀ x,foldedSetIterable iter X.env x=pure x:=by intro _;rfl):PE X (.ListComp elt [⟨tg,iter,ifs,0⟩] scope pos) (tLC ts.length wi g tt te):=by
 intro pins s σ H Q I h
 rw[eval_ListComp]
 refine wpAny_comprehension_free (use:=none) rfl hs (qgs (c.has I.ok)) c.kind c.loc (thn (hi pins s σ H _ I h) fun v s1 h1=>thn h1 fun itv s2 h2=> ?_)
 obtain ⟨it,fp,tn,J,H2,rfl,I2,T,t0,f0,hw⟩:=h2
 refine qk4 (RR:=fun acc C=>compPost (model X.prog X.w) X.A X.xe none (EP X pins σ Q) acc C) c hc hg hf he I2 T t0 f0 hw ?_
 intro D C H' s' ys m I' hn n1 n2 n3 n4 n5 hD fin
 exact⟨m,hn,fun h' hs'=>⟨.ref D,_,I'.turned (t':=s'.toks) (fun b o hb e=>(hs'.2 b hb).trans e) n4 n1 (.inr n3) n2 n5,rfl,fin D hD⟩⟩
theorem qq4 {i:Nat} {x:Str} {tg iter elt:Expr} {ifs:List Expr} {pos pos' spos:Pos} {wi:TI} {g:TG} {tt:TT} {te:TE} (hN:X.N.Nodup) (hix:X.N[i]? =some x) (hx:Loc X.env.scope x) (c:qah X ts M scope) (hc:X.calm=true) (hi:PI X tg iter wi) (hg:∀ C fp s₀ H₀,PG (cxC X ts M scope C fp s₀ H₀) tg g) (hf:∀ C fp s₀ H₀,PF (cxC X ts M scope C fp s₀ H₀) ifs tt)
   (he:∀ C fp s₀ H₀,PE (cxC X ts M scope C fp s₀ H₀) elt te) (hs:∀ x,foldedSetIterable iter X.env x=pure x:=by intro _;rfl) (hsw:swapsWith (.ListComp elt [⟨tg,iter,ifs,0⟩] scope pos) (some (.Name x pos')) spos.line X.env=pure true:=by rfl)
   (hfn:X.fn x=true∨X.env.scope.names.lookup x=some .local:=by first | exact .inl rfl | exact .inr rfl | assumption) :
   PS X (.Assign [.Name x pos'] (.ListComp elt [⟨tg,iter,ifs,0⟩] scope pos) spos) (qoy (tLC ts.length wi g tt te) (qij i)):=by
 intro pins s σ H Dn I h
 rw[exec_Assign_Name_used _ _ _ _ hsw]
 refine wpAny_bind (wpAny_standAt (wpAny_bind ?_))
 show wpAny _ X.A (do let _ ← comprehension (.ListComp elt [⟨tg,iter,ifs,0⟩] scope pos) scope X.env _ (newList []) false (eval iter X.env) (some (assign (.Name x pos') X.env))) _ _ s
 refine wpAny_bind (wpAny_mono (wpAny_comprehension_free (use:=some (assign (.Name x pos') X.env)) (Q:=fun _ s'=>SP X pins Dn .next s') rfl hs (qgs (c.has I.ok)) c.kind c.loc
   (thn (hi pins s σ H _ I h) fun v s1 h1=>thn h1 fun itv s2 h2=> ?_)) (fun _ s' hq=>wpAny_pure (wpAny_pure hq)) fun _ _ e=>e)
 obtain ⟨it,fp,tn,J,H2,rfl,I2,T,t0,f0,hw⟩:=h2
 refine qk4 (RR:=fun acc C=>compPost (model X.prog X.w) X.A X.xe (some (assign (.Name x pos') X.env)) (fun _ s'=>SP X pins Dn .next s') acc C) c hc hg hf he I2 T t0 f0 hw ?_
 intro D C H' s' ys m I' hn n1 n2 n3 n4 n5 hD fin
 show wpAny _ X.A (assign (.Name x pos') X.env (.ref D)) _ _ _
 refine wpAny_assign_Name (qew I' hN hix hx (v:=.ref D) rfl (fun s'' I'' hsb=> ?_) hfn)
 obtain ⟨a,hsb,ha⟩:=hsb
 have hCa:C ≠ a:=by
   rcases ha with rfl | ha
   · exact n1
   · exact(n2 x a ha).symm
 refine⟨m,hn.sameBut hsb hCa,fun h' hs'=>⟨_,_,I''.turned (t':=s''.toks) (fun b o hb e=>(hs'.2 b hb).trans e) n4 n1 (.inr n3) n2 n5,fin D hD⟩⟩
end
theorem q10 {J:It} {k n:Nat} {g:TG} {tt:TT} {te:TE} {σ:St} {H:Hp} {Fin:List V→Hp→Prop} (Pv:Nat→List V→Hp→Prop) (hk:k < sizeLine) (h0:Pv 0 [] H) (hl:∀ i ys H,i≤k→Pv i ys H→ys.length≤i)
   (stop:∀ ys H,Pv k ys H→J.stop k H) (go:∀ i ys H,i < k→Pv i ys H→J.go i H)
   (hs:∀ i ys H,i < k→Pv i ys H→∀ x H',J.yld i H x H'→g x (List.replicate n none++σ) H' fun σ2 H2=>σ2.drop n=σ∧tt σ2 H2 fun c H3=>if c=true then te σ2 H3 fun y H4=>Pv (i+1) (ys++[y]) H4 else Pv (i+1) ys H3)
   (hd:∀ ys H,Pv k ys H→Fin ys H):LcW J n g tt te σ H Fin:=by
 refine⟨fun i m ys H=>m=k - i∧i≤k∧Pv i ys H,⟨k,by simp,Nat.zero_le _,h0⟩,?_⟩
 rintro i m ys H ⟨rfl,hi,p⟩
 have hz:=hl i ys H hi p
 refine⟨by omega,?_⟩
 by_cases hlt:i < k
 · exact .inr ⟨go i ys H hlt p,Pv (i+1),fun ys' H' q=>⟨_,(by omega:k - (i+1) < k - i),rfl,hlt,q⟩,fun x H' y=>hs i ys H hlt p x H' y⟩
 · have e:i=k:=by omega
   subst e
   exact .inl ⟨stop ys H p,hd ys H p⟩
section
variable {X:Cx} {pins:List (Addr × Obj)} {σ:St} {H:Hp} {s:Shared}
theorem Inv.turnedT {h':Heap} {t':Nat} {ch:List Addr} {vs:List V} {its:List Value} (I:Inv X pins σ H s) (hf:∀ b ∈ ch,qci X pins H b) (k:∀ b o,b ∉ ch→s.heap.get? b=some o→h'.get? b=some o)
   (ht:∀ b ∈ ch,∃ o,h'.get? b=some o) (rv:Vals vs its) (hz:vs.length≤sizeLine) (new:IsTup h' s.heap.objs.size its.toArray):Inv X pins σ (upd H s.heap.objs.size (.tup vs)) { s with heap:=h',toks:=t' }:=by
 have hn:H s.heap.objs.size=none:=I.hok.fresh (Nat.le_refl _)
 have nch:∀ b u,H b=some u→b ∉ ch:=fun b u e z=>by rw[(hf b z).1]at e;cases e
 have np:∀ b o,s.heap.get? b=some o→b ≠ s.heap.objs.size:=fun b o e=>Nat.ne_of_lt (Heap.lt_size e)
 refine I.step (g':=s.gens) (d':=s.drawn) (ch:=ch) (fun b hb=>⟨(hf b hb).2.2.2.1,(hf b hb).2.1,(hf b hb).2.2.2.2.1,(hf b hb).2.2.2.2.2⟩) (fun b o _ _ hc e _=>k b o hc e) (fun b o _ _ hc e _=>⟨o.slots,k b o hc e⟩) (fun b o _ e n=>by rw[qc (np b o e)];exact n)
   (fun b o hc e=>⟨o,k b o hc e⟩) (fun b xs e=>by rw[qc (qu e hn)];exact e) (fun b o u e=>by rw[qc (qu e hn)];exact e) (fun b ps e=>⟨#[],by rw[qc (qu e hn),e];simp⟩) (fun m hm=> ?_) (fun b u e=> ?_) I.bare
 · obtain ⟨o,es,ep,ho,r⟩:=hm
   exact⟨o,es,ep,k _ o (fun z=>(hf _ z).2.1 rfl) ho,r⟩
 · by_cases hb:b=s.heap.objs.size
   · subst hb
     rw[qg]at e;cases e
     exact⟨hz,its,rv,new⟩
   · rw[qc hb]at e
     refine(I.hok b u e).stay (fun c v hc q=>k c v ?_ q) (fun c q=>by rw[qc (qu q hn)];exact q) fun c xs q=>by rw[qc (qu q hn)];exact q
     rcases hc with z | z
     · rw[z];exact nch b u e
     · exact nch c _ z
theorem Inv.turnedN {h':Heap} {t':Nat} {ch:List Addr} (I:Inv X pins σ H s) (hf:∀ b ∈ ch,qci X pins H b) (k:∀ b o,b ∉ ch→s.heap.get? b=some o→h'.get? b=some o):Inv X pins σ H { s with heap:=h',toks:=t' }:=by
 have nch:∀ b u,H b=some u→b ∉ ch:=fun b u e z=>by rw[(hf b z).1]at e;cases e
 refine I.step (g':=s.gens) (d':=s.drawn) (ch:=ch) (fun b hb=>⟨(hf b hb).2.2.2.1,(hf b hb).2.1,(hf b hb).2.2.2.2.1,(hf b hb).2.2.2.2.2⟩) (fun b o _ _ hc e _=>k b o hc e) (fun b o _ _ hc e _=>⟨o.slots,k b o hc e⟩) (fun b o _ e n=>n)
   (fun b o hc e=>⟨o,k b o hc e⟩) (fun b xs e=>e) (fun b o u e=>e) (fun b ps e=>⟨#[],by rw[e];simp⟩) (fun m hm=> ?_) (fun b u e=> ?_) I.bare
 · obtain ⟨o,es,ep,ho,r⟩:=hm
   exact⟨o,es,ep,k _ o (fun z=>(hf _ z).2.1 rfl) ho,r⟩
 · refine(I.hok b u e).stay (fun c v hc q=>k c v ?_ q) (fun c q=>q) fun c xs q=>q
   rcases hc with z | z
   · rw[z];exact nch b u e
   · exact nch c _ z
end
noncomputable def Ite (K:PySem.W.Frag) (a:Addr):It :=
 ⟨fun i H=>∃ xs x,SqL K H a xs∧xs[i]? =some x,
  fun i H x H'=>∃ (p:Addr) (y:V),H p=none∧x=.ref p∧H'=upd H p (.tup [.int i,y])∧∀ xs,SqL K H a xs→xs[i]? =some y,
  fun i H=>∃ xs,SqL K H a xs∧xs.length≤i⟩
theorem qpf {P:Program} {w:World} {K:PySem.W.Frag} {elts:List Expr} {k:Nat} {pos:Pos} (a e it:Addr) (hne:e ≠ it) :
   Turn P w K (.Tuple elts k pos) (Ite K a) [e,it] e (fun i h=>(∃ old,IsEnum h e it i old)∧h.IsListIter it a i) where
 mem:=by simp
 obj :=fun i h st b hb=>by
   obtain ⟨⟨old,he⟩,hi⟩:=st
   rcases List.mem_cons.mp hb with rfl | hb
   · exact⟨_,he,fun v z=>by cases z⟩
   · have e:b=it:=by simpa using hb
     subst e
     obtain ⟨o,e,c,d⟩:=hi
     exact⟨o,e,fun v z=>by rw[d]at z;cases z⟩
 keep:=fun i h h' st kk=>by
   obtain ⟨⟨old,he⟩,hi⟩:=st
   exact⟨⟨old,kk e (by simp) _ he⟩,hi.at fun o q=>kk it (by simp) o q⟩
 item := by
   intro X hP hw hK hc i pins s σ H E I hf st hg
   subst hP hw hK
   obtain ⟨⟨old,he⟩,hi⟩:=st
   obtain ⟨xs,x,hq,hx⟩:=hg
   obtain ⟨its,rv,p,hz⟩:=I.list hq
   obtain ⟨u,hu,ru⟩:=rv.get hx
   refine wpAny_pyNext_enum_item he hi p.isList (x:=u) (by simpa using hu) hne fun h1 ho hi1 htup hsz hk=> ?_
   refine⟨_,rfl,wpAny_letOwnedTupleGo_enum ho fun h2 he2 hs2=> ?_⟩
   have nez:s.heap.objs.size ≠ e:=Nat.ne_of_gt (Heap.lt_size he)
   have J:=I.turnedT (h':=h2) (t':=s.toks+1) (vs:=[.int i,x]) (its:=[.int i s.toks,u]) (ch:=[e,it]) hf (fun b o hb q=>(hs2.2 b (fun z=>hb (by simp [z]))).trans (hk b o (fun z=>hb (by simp [z])) (fun z=>hb (by simp [z])) q))
     (fun b hb=>by
       rcases List.mem_cons.mp hb with rfl | hb
       · exact⟨_,he2⟩
       · have z:b=it:=by simpa using hb
         subst z
         obtain ⟨o,q,_⟩:=hi1
         exact⟨o,(hs2.2 b (Ne.symm hne)).trans q⟩) (.cons ⟨_,rfl⟩ (.cons ru .nil)) (by show 2≤sizeLine;decide) ⟨_,(hs2.2 _ nez).trans htup,rfl,_,rfl⟩
   have hn:H s.heap.objs.size=none:=I.hok.fresh (Nat.le_refl _)
   refine⟨.ref s.heap.objs.size,_,J,rfl,⟨_,x,hn,rfl,rfl,fun ys hy=>by rw[I.list_inj hy hq];exact hx⟩,⟨⟨_,he2⟩,?_⟩,fun b hb=> ?_⟩
   · obtain ⟨o,q,r⟩:=hi1
     exact⟨o,(hs2.2 _ (Ne.symm hne)).trans q,r⟩
   · have z:=(hf b hb).1
     rw[qc]
     · exact z
     · rcases List.mem_cons.mp hb with rfl | hb
       · exact Ne.symm nez
       · have z:b=it:=by simpa using hb
         subst z
         obtain ⟨o,q,_⟩:=hi
         exact Nat.ne_of_lt (Heap.lt_size q)
 done:=by
   intro X hP hw hK hc i pins s σ H E I hf st hg
   subst hP hw hK
   obtain ⟨⟨old,he⟩,hi⟩:=st
   obtain ⟨xs,hq,hx⟩:=hg
   obtain ⟨its,rv,p,hz⟩:=I.list hq
   have hl:=rv.length
   exact wpAny_pyNext_enum_end (I.ok.hd hc) he hi p.isList (by simp;omega) fun h' eb=>⟨rfl,I.turnedN (t':=s.toks) hf fun b o hb q=>eb b o (fun z=>hb (by simp [z])) q⟩
 self:=fun _ _ s Q _ st h=>by
   obtain ⟨⟨old,he⟩,hi⟩:=st
   exact wpAny_pyIter_enum he h
section
variable {X:Cx}
noncomputable def q11 (K:PySem.W.Frag) (ta:TA):TI:=fun σ H R=>ta σ H fun vs H1=>∃ a,vs=[.ref a]∧(∃ xs,SqL K H1 a xs)∧R (Ite K a) H1
theorem qtx {elts:List Expr} {k:Nat} {pos':Pos} {a:Expr} {ta:TA} {p pos:Pos} (hg:Gl X "enumerate") (hm:X.mg "enumerate"=none) (ha:PA X [a] ta) (hs:starEach [a] X.env=[(false,eval a X.env)]:=by rfl) :
   PI X (.Tuple elts k pos') (.Call (.Name "enumerate" p) [a] [] pos) (q11 X.K ta):=by
 intro pins s σ H R I h
 refine Call_ (qcu I hg hm qjl (PyProof.Rows.callWith_type1 (thn (ha pos pins s σ H _ I h) fun us s1 ⟨vs,H1,I1,r1,q1⟩=> ?_) hs rfl))
 obtain ⟨l,e,⟨xs,hq⟩,q⟩:=q1
 subst e
 obtain ⟨u,rfl,ru⟩:=r1.one
 cases ru
 obtain ⟨its,rv,pl,hz⟩:=I1.list hq
 refine call_enumerate_list pl.isList fun h' he hi hsz hk=> ?_
 refine wpAny_pyIter_enum he ?_
 have hne:s1.heap.objs.size+1 ≠ s1.heap.objs.size:=Nat.succ_ne_self _
 have fr:∀ b,s1.heap.objs.size≤b→H1 b=none:=fun b hb=>I1.hok.fresh hb
 refine⟨_,[s1.heap.objs.size+1,s1.heap.objs.size],_,_,H1,rfl,I1.kept (t':=s1.toks) hk,qpf l _ _ hne,⟨⟨_,he⟩,hi⟩,fun b hb=> ?_,q⟩
 have hb':s1.heap.objs.size≤b:=by
   rcases List.mem_cons.mp hb with rfl | hb
   · exact Nat.le_succ _
   · have z:b=s1.heap.objs.size:=by simpa using hb
     subst z;exact Nat.le_refl _
 exact I1.fpOk hb' (fr b hb')
end
noncomputable def qt (b:Bool) (h:Heap) (it l:Addr) (i:Nat):Prop:=if b=true then h.IsListIter it l i else h.IsTupleIter it l i
noncomputable def qbp (b:Bool) (h:Heap) (l:Addr) (items:Array Value):Prop:=if b=true then h.IsList l items else h.IsTuple l items
theorem qt.at' {b:Bool} {h h':Heap} {it l:Addr} {i:Nat} (x:qt b h it l i) (k:∀ o,h.get? it=some o→h'.get? it=some o):qt b h' it l i:=by
 cases b with
 | true=>exact Heap.IsListIter.at (show h.IsListIter it l i from x) k
 | false=>exact Heap.IsTupleIter.at (show h.IsTupleIter it l i from x) k
theorem qt.here {b:Bool} {h:Heap} {it l:Addr} {i:Nat} (x:qt b h it l i):∃ o,h.get? it=some o∧∀ v,o.data ≠ .cell v:=by
 cases b with
 | true =>
   obtain ⟨o,e,c,d⟩:=(show h.IsListIter it l i from x)
   exact⟨o,e,fun v z=>by rw[d]at z;cases z⟩
 | false =>
   obtain ⟨o,e,c,d⟩:=(show h.IsTupleIter it l i from x)
   exact⟨o,e,fun v z=>by rw[d]at z;cases z⟩
theorem qbp.at' {b:Bool} {h h':Heap} {l:Addr} {items:Array Value} (x:qbp b h l items) (k:∀ o,h.get? l=some o→h'.get? l=some o):qbp b h' l items:=by
 cases b with
 | true=>obtain ⟨o,e,r⟩:=(show h.IsList l items from x);exact⟨o,k o e,r⟩
 | false=>obtain ⟨o,e,r⟩:=(show h.IsTuple l items from x);exact⟨o,k o e,r⟩
section
variable {prog:Program} {w:World} {A:Around} {E:Value→Shared→Prop} {s:Shared}
theorem qem {it l:Addr} {i:Nat} {items:Array Value} {x:Value} {Q:Value→Shared→Prop} (hit:s.heap.IsTupleIter it l i) (hl:s.heap.IsTuple l items) (hx:items[i]? =some x)
   (hQ:∀ h',h'.IsTupleIter it l (i+1)→Heap.SameBut it s.heap h'→Q x { s with heap:=h' }):wpAny (model prog w) A (Builtin.SmallTypes.nextOf (.ref it)) Q E s:=by
 obtain ⟨o,ho,hc,hd⟩:=id hit
 obtain ⟨ol,hol,_,nl,hdl⟩:=hl
 unfold Builtin.SmallTypes.nextOf
 refine wpAny_bind (wpAny_callSpecial?_slot (name:=Str.ofString "__next__") hit.typeIs F.slot_tuple_iterator_next (wpAny_call_entry F.slot_tuple_iterator_next hit.typeIs F.entry_tuple_iterator_next ?_ (F.args_tuple_iterator_next_1 _)))
 show wpAny _ _ (field (.ref it) 0 >>= _) _ _ s
 refine wpAny_bind (wpAny_field ho hd (x:=.ref l) rfl ?_)
 show wpAny _ _ (if (Value.ref l==Value.none)=true then _ else _) _ _ s
 rw[if_neg (by simp:¬ ((Value.ref l==Value.none)=true))]
 show wpAny _ _ (field (.ref it) 1 >>= _) _ _ s
 refine wpAny_bind (wpAny_field ho hd (x:=.int i 0) rfl ?_)
 show wpAny _ _ (seqItems? (.ref l) >>= _) _ _ s
 refine wpAny_bind (wpAny_seqItems hol hdl ?_)
 simp only [Int.toNat_natCast,hx]
 refine wpAny_bind (wpAny_setField ho hd (by simp) (wpAny_pure ⟨x,rfl,wpAny_pure (hQ _ ?_ (Heap.SameBut.update ..))⟩))
 exact⟨_,Heap.get?_update_self _ ho (Obj.isFreed_of_fields (Obj.data_mapFields hd _)),(Obj.cls_mapFields ..).trans hc,by rw[Obj.data_mapFields hd];simp [rawInt]⟩
end
section
variable {prog:Program} {w:World} {A:Around} {E:Value→Shared→Prop} {s:Shared}
theorem qe2 {it l:Addr} {i:Nat} {items:Array Value} {Q:Value→Shared→Prop} (hh:A.handled=none) (hit:s.heap.IsTupleIter it l i) (hl:s.heap.IsTuple l items) (hx:items[i]? =none)
   (hE:∀ h' e,Heap.ExtBut it s.heap h'→(∃ o,h'.get? e=some o∧o.cls=.type "StopIteration")→E (.ref e) { s with heap:=h' }):wpAny (model prog w) A (Builtin.SmallTypes.nextOf (.ref it)) Q E s:=by
 obtain ⟨o,ho,hc,hd⟩:=id hit
 obtain ⟨ol,hol,_,nl,hdl⟩:=hl
 unfold Builtin.SmallTypes.nextOf
 refine wpAny_bind (wpAny_callSpecial?_slot (name:=Str.ofString "__next__") hit.typeIs F.slot_tuple_iterator_next (wpAny_call_entry F.slot_tuple_iterator_next hit.typeIs F.entry_tuple_iterator_next ?_ (F.args_tuple_iterator_next_1 _)))
 show wpAny _ _ (field (.ref it) 0 >>= _) _ _ s
 refine wpAny_bind (wpAny_field ho hd (x:=.ref l) rfl ?_)
 show wpAny _ _ (if (Value.ref l==Value.none)=true then _ else _) _ _ s
 rw[if_neg (by simp:¬ ((Value.ref l==Value.none)=true))]
 show wpAny _ _ (field (.ref it) 1 >>= _) _ _ s
 refine wpAny_bind (wpAny_field ho hd (x:=.int i 0) rfl ?_)
 show wpAny _ _ (seqItems? (.ref l) >>= _) _ _ s
 refine wpAny_bind (wpAny_seqItems hol hdl ?_)
 simp only [Int.toNat_natCast,hx]
 refine wpAny_bind (wpAny_rule (wpAny_bind (wpAny_setField ho hd (by simp) ?_)))
 show wpAny _ _ (newExc (.type "StopIteration") [] >>= _) _ _ _
 refine wpAny_bind ?_
 simp only [newExc,newTuple]
 refine wpAny_bind (wpAny_newObj_type ?_ (by size_fits))
 refine wpAny_bind (m:=firstArgMember _ _) (wpAny_of_eq (a:=Value.none) (by first | rfl | (simp only [firstArgMember];rfl)) ?_)
 refine wpAny_newObj_type ?_ (by size_fits)
 simp only [raiseNew]
 refine wpAny_bind (wpAny_handled ?_)
 first | rw[show A.in1.handled=none from hh] | rw[hh]
 refine wpAny_bind (wpAny_pure (wpAny_throw ?_))
 exact hE _ _ (((Heap.SameBut.update ..).extBut.push _).push _) ⟨_,Heap.get?_push_size _ rfl,rfl⟩
theorem qcx {b:Bool} {it l:Addr} {i:Nat} {items:Array Value} {x:Value} {Q:Value→Shared→Prop} (hit:qt b s.heap it l i) (hl:qbp b s.heap l items) (hx:items[i]? =some x)
   (hQ:∀ h',qt b h' it l (i+1)→Heap.SameBut it s.heap h'→Q x { s with heap:=h' }):wpAny (model prog w) A (Builtin.SmallTypes.nextOf (.ref it)) Q E s:=by
 cases b with
 | true=>exact wpAny_nextOf_list_item (show s.heap.IsListIter it l i from hit) (show s.heap.IsList l items from hl) hx fun h' a b=>hQ h' a b
 | false=>exact qem (show s.heap.IsTupleIter it l i from hit) (show s.heap.IsTuple l items from hl) hx fun h' a b=>hQ h' a b
theorem qgt {b:Bool} {it l:Addr} {i:Nat} {items:Array Value} {Q:Value→Shared→Prop} (hh:A.handled=none) (hit:qt b s.heap it l i) (hl:qbp b s.heap l items) (hx:items[i]? =none)
   (hE:∀ h' e,Heap.ExtBut it s.heap h'→(∃ o,h'.get? e=some o∧o.cls=.type "StopIteration")→E (.ref e) { s with heap:=h' }):wpAny (model prog w) A (Builtin.SmallTypes.nextOf (.ref it)) Q E s:=by
 cases b with
 | true=>exact wpAny_nextOf_list_end hh (show s.heap.IsListIter it l i from hit) (show s.heap.IsList l items from hl) hx hE
 | false=>exact qe2 hh (show s.heap.IsTupleIter it l i from hit) (show s.heap.IsTuple l items from hl) hx hE
theorem qgu {b1 b2:Bool} {z TI TO i1 i2 l1 l2:Addr} {k1 k2:Nat} {xs ys:Array Value} {x y a b:Value} {Q:Value→Shared→Prop} (D:ZipApart z TI TO i1 i2 l1 l2)
   (hz:IsZip s.heap z TI TO .none) (hTI:IsPair s.heap TI (.ref i1) (.ref i2)) (hTO:IsPair s.heap TO a b) (h1:qt b1 s.heap i1 l1 k1) (h2:qt b2 s.heap i2 l2 k2) (hl1:qbp b1 s.heap l1 xs) (hl2:qbp b2 s.heap l2 ys) (hx:xs[k1]? =some x) (hy:ys[k2]? =some y)
   (hQ:∀ h',IsZip h' z TI TO (rawInt s.heap.objs.size)→IsPair h' TO x y→qt b1 h' i1 l1 (k1+1)→qt b2 h' i2 l2 (k2+1)→IsPair h' s.heap.objs.size x y→h'.objs.size=s.heap.objs.size+1 →
     (∀ c o,c ≠ z→c ≠ TO→c ≠ i1→c ≠ i2→s.heap.get? c=some o→h'.get? c=some o)→Q (.ref s.heap.objs.size) { s with heap:=h' }) :
   wpAny (model prog w) A (Builtin.«zip.__next__» ⟨[.ref z],[]⟩) (fun fin s'=>∃ v,fin=.done (.ret v)∧Q v s') E s:=by
 show wpAny _ _ (field (.ref z) 2 >>= _) _ _ _
 refine wpAny_bind (wpAny_field hz rfl (x:=.bool false) rfl ?_)
 show wpAny _ _ (field (.ref z) 3 >>= _) _ _ _
 refine wpAny_bind (wpAny_field hz rfl (x:=.ref TI) rfl ?_)
 refine wpAny_bind (wpAny_seqItems hTI rfl ?_)
 show wpAny _ _ (Builtin.SmallTypes.ownedTupleIsFree (.ref z) >>= _) _ _ _
 refine wpAny_bind ?_
 unfold Builtin.SmallTypes.ownedTupleIsFree
 refine wpAny_bind (wpAny_field hz rfl (x:=.none) rfl (wpAny_pure ?_))
 simp only [if_true]
 refine wpAny_bind (wpAny_rule ?_)
 refine wpAny_bind (wpAny_field hz rfl (x:=.ref TO) rfl ?_)
 refine wpAny_bind (wpAny_setField_rec hz (by simp) fun h₁ hz₁ hs₁=> ?_)
 replace hz₁:IsZip h₁ z TI TO .ellipsis:=hz₁
 refine wpAny_bind ?_
 simp only [List.zipIdx_cons,List.zipIdx_nil,List.forIn_cons,List.forIn_nil]
 refine wpAny_bind (wpAny_bind (wpAny_onRaise ?_))
 show wpAny _ _ (Builtin.SmallTypes.nextOf (.ref i1) >>= _) _ _ _
 refine wpAny_bind (qcx (h1.at' fun o e=>hs₁.extBut _ _ D.i1z e) (hl1.at' fun o e=>hs₁.extBut _ _ D.l1z e) hx fun h₂ h1₂ hs₂=>wpAny_pure ?_)
 have hTO₂:IsPair h₂ TO a b:=hs₂.extBut _ _ D.TOi1 (hs₁.extBut _ _ D.TOz hTO)
 refine wpAny_bind (wpAny_seqItems hTO₂ rfl ?_)
 refine wpAny_bind (wpAny_updateSeq_pair hTO₂ fun h₃ hTO₃ hs₃=> ?_)
 replace hTO₃:IsPair h₃ TO x b:=hTO₃
 refine wpAny_bind (wpAny_letGo (wpAny_pure ?_))
 refine wpAny_bind (wpAny_bind (wpAny_onRaise ?_))
 show wpAny _ _ (Builtin.SmallTypes.nextOf (.ref i2) >>= _) _ _ _
 refine wpAny_bind (qcx (h2.at' fun o e=>hs₃.extBut _ _ D.TOi2.symm (hs₂.extBut _ _ D.i12.symm (hs₁.extBut _ _ D.i2z e))) (hl2.at' fun o e=>hs₃.extBut _ _ D.l2TO (hs₂.extBut _ _ D.l2i1 (hs₁.extBut _ _ D.l2z e))) hy fun h₄ h2₄ hs₄=>wpAny_pure ?_)
 have hTO₄:IsPair h₄ TO x b:=hs₄.extBut _ _ D.TOi2 hTO₃
 refine wpAny_bind (wpAny_seqItems hTO₄ rfl ?_)
 refine wpAny_bind (wpAny_updateSeq_pair hTO₄ fun h₅ hTO₅ hs₅=> ?_)
 replace hTO₅:IsPair h₅ TO x y:=hTO₅
 refine wpAny_bind (wpAny_letGo (wpAny_pure (wpAny_pure ?_)))
 refine wpAny_bind (wpAny_seqItems hTO₅ rfl ?_)
 refine wpAny_bind (wpAny_newTuple ?_)
 have hsz:h₅.objs.size=s.heap.objs.size:=by rw[hs₅.1,hs₄.1,hs₃.1,hs₂.1,hs₁.1]
 have hz₅:IsZip h₅ z TI TO .ellipsis:=hs₅.extBut _ _ D.TOz.symm (hs₄.extBut _ _ D.i2z.symm (hs₃.extBut _ _ D.TOz.symm (hs₂.extBut _ _ D.i1z.symm hz₁)))
 have hk₅:∀ c o,c ≠ z→c ≠ TO→c ≠ i1→c ≠ i2→s.heap.get? c=some o→h₅.get? c=some o:=fun c o c1 c2 c3 c4 e=>hs₅.extBut _ _ c2 (hs₄.extBut _ _ c4 (hs₃.extBut _ _ c2 (hs₂.extBut _ _ c3 (hs₁.extBut _ _ c1 e))))
 have h1₅:qt b1 h₅ i1 l1 (k1+1):=h1₂.at' fun o e=>hs₅.extBut _ _ D.TOi1.symm (hs₄.extBut _ _ D.i12 (hs₃.extBut _ _ D.TOi1.symm e))
 have h2₅:qt b2 h₅ i2 l2 (k2+1):=h2₄.at' fun o e=>hs₅.extBut _ _ D.TOi2.symm e
 have hzlt:z < h₅.objs.size:=Heap.lt_size hz₅
 show wpAny _ _ (Builtin.SmallTypes.ownedTupleHandOut (.ref z) (.ref h₅.objs.size) >>= _) _ _ _
 refine wpAny_bind ?_
 unfold Builtin.SmallTypes.ownedTupleHandOut
 have hz₆:IsZip (h₅.push { cls:=.type "tuple",data:=.seq #[x,y] }) z TI TO .ellipsis:=Heap.get?_push_of_some _ hz₅
 refine wpAny_bind (wpAny_setField_rec hz₆ (by simp) fun h₇ hz₇ hs₇=> ?_)
 replace hz₇:IsZip h₇ z TI TO (rawInt h₅.objs.size):=hz₇
 refine wpAny_setField_rec hz₇ (by simp) fun h₈ hz₈ hs₈=> ?_
 replace hz₈:IsZip h₈ z TI TO (rawInt h₅.objs.size):=hz₈
 have up:∀ c o,c ≠ z→h₅.get? c=some o→h₈.get? c=some o:=fun c o c1 e=>hs₈.extBut _ _ c1 (hs₇.extBut _ _ c1 (Heap.get?_push_of_some _ e))
 have hT₈:IsPair h₈ h₅.objs.size x y:=hs₈.extBut _ _ (Nat.ne_of_gt hzlt) (hs₇.extBut _ _ (Nat.ne_of_gt hzlt) (Heap.get?_push_size _ rfl))
 have hz8:h₈.objs.size=h₅.objs.size+1:=by rw[hs₈.1,hs₇.1,Heap.size_push]
 rw[hsz]at hz₈ hT₈ hz8
 refine wpAny_pure ⟨_,rfl,?_⟩
 show Q (.ref h₅.objs.size) _
 rw[hsz]
 exact hQ h₈ hz₈ (up _ _ D.TOz hTO₅) (h1₅.at' fun o e=>up _ o D.i1z e) (h2₅.at' fun o e=>up _ o D.i2z e) hT₈ hz8 fun c o c1 c2 c3 c4 e=>up c o c1 (hk₅ c o c1 c2 c3 c4 e)
theorem qhz {b1 b2:Bool} {z TI TO i1 i2 l1 l2:Addr} {k1 k2:Nat} {xs ys:Array Value} {a b:Value} {Q:Fin→Shared→Prop} (hh:A.handled=none) (D:ZipApart z TI TO i1 i2 l1 l2)
   (hz:IsZip s.heap z TI TO .none) (hTI:IsPair s.heap TI (.ref i1) (.ref i2)) (hTO:IsPair s.heap TO a b) (h1:qt b1 s.heap i1 l1 k1) (h2:qt b2 s.heap i2 l2 k2) (hl1:qbp b1 s.heap l1 xs) (hl2:qbp b2 s.heap l2 ys) (hend:xs[k1]? =none∨ys[k2]? =none)
   (hE:∀ h' e,(∀ c o,c ≠ z→c ≠ TO→c ≠ i1→c ≠ i2→s.heap.get? c=some o→h'.get? c=some o)→(∃ o,h'.get? e=some o∧o.cls=.type "StopIteration")→E (.ref e) { s with heap:=h' }) :
   wpAny (model prog w) A (Builtin.«zip.__next__» ⟨[.ref z],[]⟩) Q E s:=by
 show wpAny _ _ (field (.ref z) 2 >>= _) _ _ _
 refine wpAny_bind (wpAny_field hz rfl (x:=.bool false) rfl ?_)
 show wpAny _ _ (field (.ref z) 3 >>= _) _ _ _
 refine wpAny_bind (wpAny_field hz rfl (x:=.ref TI) rfl ?_)
 refine wpAny_bind (wpAny_seqItems hTI rfl ?_)
 show wpAny _ _ (Builtin.SmallTypes.ownedTupleIsFree (.ref z) >>= _) _ _ _
 refine wpAny_bind ?_
 unfold Builtin.SmallTypes.ownedTupleIsFree
 refine wpAny_bind (wpAny_field hz rfl (x:=.none) rfl (wpAny_pure ?_))
 simp only [if_true]
 refine wpAny_bind (wpAny_rule ?_)
 refine wpAny_bind (wpAny_field hz rfl (x:=.ref TO) rfl ?_)
 refine wpAny_bind (wpAny_setField_rec hz (by simp) fun h₁ hz₁ hs₁=> ?_)
 replace hz₁:IsZip h₁ z TI TO .ellipsis:=hz₁
 refine wpAny_bind ?_
 simp only [List.zipIdx_cons,List.zipIdx_nil,List.forIn_cons,List.forIn_nil]
 refine wpAny_bind (wpAny_bind (wpAny_onRaise ?_))
 show wpAny _ _ (Builtin.SmallTypes.nextOf (.ref i1) >>= _) _ _ _
 have h1₁:=h1.at' (h':=h₁) fun o e=>hs₁.extBut _ _ D.i1z e
 have hl1₁:=hl1.at' (h':=h₁) fun o e=>hs₁.extBut _ _ D.l1z e
 cases hx:xs[k1]? with
 | none =>
   refine wpAny_bind (qgt hh h1₁ hl1₁ hx fun h₂ e hs₂ he=> ?_)
   obtain ⟨oe,hoe,hce⟩:=he
   have hz₂:IsZip h₂ z TI TO .ellipsis:=hs₂ _ _ D.i1z.symm hz₁
   have hez:e ≠ z:=fun x=>by subst x;rw[hz₂]at hoe;cases hoe;simp at hce
   exact wpAny_setField_rec hz₂ (by simp) fun h₃ _ hs₃=>hE h₃ e (fun c o c1 _ c3 _ x=>hs₃.extBut _ _ c1 (hs₂ _ _ c3 (hs₁.extBut _ _ c1 x))) ⟨oe,hs₃.extBut _ _ hez hoe,hce⟩
 | some x =>
   have hy:ys[k2]? =none:=by rcases hend with h | h;rw[hx]at h;cases h;exact h
   refine wpAny_bind (qcx h1₁ hl1₁ hx fun h₂ h1₂ hs₂=>wpAny_pure ?_)
   have hTO₂:IsPair h₂ TO a b:=hs₂.extBut _ _ D.TOi1 (hs₁.extBut _ _ D.TOz hTO)
   refine wpAny_bind (wpAny_seqItems hTO₂ rfl ?_)
   refine wpAny_bind (wpAny_updateSeq_pair hTO₂ fun h₃ hTO₃ hs₃=> ?_)
   refine wpAny_bind (wpAny_letGo (wpAny_pure ?_))
   refine wpAny_bind (wpAny_bind (wpAny_onRaise ?_))
   show wpAny _ _ (Builtin.SmallTypes.nextOf (.ref i2) >>= _) _ _ _
   refine wpAny_bind (qgt hh (h2.at' fun o e=>hs₃.extBut _ _ D.TOi2.symm (hs₂.extBut _ _ D.i12.symm (hs₁.extBut _ _ D.i2z e))) (hl2.at' fun o e=>hs₃.extBut _ _ D.l2TO (hs₂.extBut _ _ D.l2i1 (hs₁.extBut _ _ D.l2z e))) hy fun h₄ e hs₄ he=> ?_)
   obtain ⟨oe,hoe,hce⟩:=he
   have hz₄:IsZip h₄ z TI TO .ellipsis:=hs₄ _ _ D.i2z.symm (hs₃.extBut _ _ D.TOz.symm (hs₂.extBut _ _ D.i1z.symm hz₁))
   have hez:e ≠ z:=fun x=>by subst x;rw[hz₄]at hoe;cases hoe;simp at hce
   exact wpAny_setField_rec hz₄ (by simp) fun h₅ _ hs₅=>hE h₅ e (fun c o c1 c2 c3 c4 x=>hs₅.extBut _ _ c1 (hs₄ _ _ c4 (hs₃.extBut _ _ c2 (hs₂.extBut _ _ c3 (hs₁.extBut _ _ c1 x))))) ⟨oe,hs₅.extBut _ _ hez hoe,hce⟩
theorem qk5 {b:Bool} {l:Addr} {items:Array Value} {Q:Value→Shared→Prop} (hl:qbp b s.heap l items)
   (hQ:Q (.ref s.heap.objs.size) { s with heap:=s.heap.push { cls:=.type (if b=true then "list_iterator" else "tuple_iterator"),data:=.fields #[.ref l,.int 0 0] } }):wpAny (model prog w) A (pyIter (.ref l)) Q E s:=by
 cases b with
 | true=>exact wpAny_pyIter_list (show s.heap.IsList l items from hl) hQ
 | false=>exact wpAny_pyIter_tuple (show s.heap.IsTuple l items from hl) hQ
theorem qt.new {b:Bool} {h:Heap} {l:Addr}:qt b (h.push { cls:=.type (if b=true then "list_iterator" else "tuple_iterator"),data:=.fields #[.ref l,.int 0 0] }) h.objs.size l 0:=by
 cases b with
 | true=>exact⟨_,Heap.get?_push_size _ rfl,rfl,rfl⟩
 | false=>exact⟨_,Heap.get?_push_size _ rfl,rfl,rfl⟩
theorem qbp.push {b:Bool} {h:Heap} {l:Addr} {items:Array Value} {o:Obj} (x:qbp b h l items):qbp b (h.push o) l items:=x.at' fun _ e=>Heap.get?_push_of_some _ e
noncomputable abbrev qq5 (b1:Bool) (h:Heap) (l1:Addr):Heap:=h.push { cls:=.type (if b1=true then "list_iterator" else "tuple_iterator"),data:=.fields #[.ref l1,.int 0 0] }
noncomputable abbrev qq6 (b1 b2:Bool) (h:Heap) (l1 l2:Addr):Heap:=(qq5 b1 h l1).push { cls:=.type (if b2=true then "list_iterator" else "tuple_iterator"),data:=.fields #[.ref l2,.int 0 0] }
noncomputable abbrev qty (b1 b2:Bool) (h:Heap) (l1 l2:Addr):Heap:=(qq6 b1 b2 h l1 l2).push { cls:=.type "tuple",data:=.seq #[.ref h.objs.size,.ref (qq5 b1 h l1).objs.size] }
noncomputable abbrev qtz (b1 b2:Bool) (h:Heap) (l1 l2:Addr):Heap:=(qty b1 b2 h l1 l2).push { cls:=.type "tuple",data:=.seq #[.none,.none] }
noncomputable abbrev qmy (b1 b2:Bool) (h:Heap) (l1 l2:Addr):Heap:=(qtz b1 b2 h l1 l2).push { cls:=.type "zip",data:=.fields #[.none,.bool false,.bool false,.ref (qq6 b1 b2 h l1 l2).objs.size,.ref (qty b1 b2 h l1 l2).objs.size] }
theorem qgv (b1 b2:Bool) (l1 l2:Addr) (xs ys:Array Value) :
   Meets (Builtin.«zip.__new__» ⟨[.type "zip",.ref l1,.ref l2],[]⟩) (fun _ R s=>qbp b1 s.heap l1 xs∧qbp b2 s.heap l2 ys ∧
     R (.ok (.ret (.ref (qtz b1 b2 s.heap l1 l2).objs.size))) { s with heap:=qmy b1 b2 s.heap l1 l2 }) :=
 .of_wp fun prog w A R s h=>by
   obtain ⟨hp,g,d,tk,os⟩:=s;obtain ⟨hl1,hl2,h⟩:=h
   have hsub:=sub_zip
   have hL1:qbp b1 (Shared.heap ⟨hp,g,d,tk,os⟩) l1 xs:=hl1
   have hL2:qbp b2 (Shared.heap ⟨qq5 b1 hp l1,g,d,tk,os⟩) l2 ys:=qbp.push hl2
   wp_walk using qk5 hL1,qk5 hL2
   exact⟨_,rfl,h⟩
end
section
variable {prog:Program} {w:World} {A:Around} {E:Value→Shared→Prop} {s:Shared}
theorem qpg {b1 b2:Bool} {l1 l2:Addr} {xs ys:Array Value} {Q:Value→Shared→Prop} (hl1:qbp b1 s.heap l1 xs) (hl2:qbp b2 s.heap l2 ys)
   (h:∀ h',IsZip h' (s.heap.objs.size+4) (s.heap.objs.size+2) (s.heap.objs.size+3) .none→IsPair h' (s.heap.objs.size+2) (.ref s.heap.objs.size) (.ref (s.heap.objs.size+1)) →
     IsPair h' (s.heap.objs.size+3) .none .none→qt b1 h' s.heap.objs.size l1 0→qt b2 h' (s.heap.objs.size+1) l2 0 →
     (∀ c o,s.heap.get? c=some o→h'.get? c=some o)→Q (.ref (s.heap.objs.size+4)) { s with heap:=h' }) :
   wpAny (model prog w) A (call (.type "zip") [.ref l1,.ref l2]) Q E s:=by
 refine callType_new F.called_zip (by decide) (F.typeCall_zip_2 _ _) (F.newCall_zip_2 _ _) (fun obj=>F.args_object_init_3 obj _ _) F.entry_zip_new (qgv b1 b2 l1 l2 xs ys) ⟨hl1,hl2,?_⟩
 have z1:(qq5 b1 s.heap l1).objs.size=s.heap.objs.size+1:=Heap.size_push ..
 have z2:(qq6 b1 b2 s.heap l1 l2).objs.size=s.heap.objs.size+2:=by rw[Heap.size_push,z1]
 have z3:(qty b1 b2 s.heap l1 l2).objs.size=s.heap.objs.size+3:=by rw[Heap.size_push,z2]
 have z4:(qtz b1 b2 s.heap l1 l2).objs.size=s.heap.objs.size+4:=by rw[Heap.size_push,z3]
 have g5:(qmy b1 b2 s.heap l1 l2).get? (qtz b1 b2 s.heap l1 l2).objs.size=some _:=Heap.get?_push_size _ rfl
 have g4:(qmy b1 b2 s.heap l1 l2).get? (qty b1 b2 s.heap l1 l2).objs.size=some _:=Heap.get?_push_of_some _ (Heap.get?_push_size _ rfl)
 have g3:(qmy b1 b2 s.heap l1 l2).get? (qq6 b1 b2 s.heap l1 l2).objs.size=some _:=Heap.get?_push_of_some _ (Heap.get?_push_of_some _ (Heap.get?_push_size _ rfl))
 have up2:∀ c o,(qq6 b1 b2 s.heap l1 l2).get? c=some o→(qmy b1 b2 s.heap l1 l2).get? c=some o:=fun c o e=>Heap.get?_push_of_some _ (Heap.get?_push_of_some _ (Heap.get?_push_of_some _ e))
 have g2:qt b2 (qmy b1 b2 s.heap l1 l2) (qq5 b1 s.heap l1).objs.size l2 0:=qt.new.at' fun o e=>up2 _ o e
 have g1:qt b1 (qmy b1 b2 s.heap l1 l2) s.heap.objs.size l1 0:=qt.new.at' fun o e=>up2 _ o (Heap.get?_push_of_some _ e)
 show _∧_
 rw[z2,z3,z4]at g5
 rw[z1,z2]at g3
 rw[z3]at g4
 rw[z1]at g2
 rw[z4]
 exact⟨⟨_,g5,rfl⟩,h _ g5 g3 g4 g1 g2 fun c o x=>up2 c o (Heap.get?_push_of_some _ (Heap.get?_push_of_some _ x))⟩
theorem qe3 {b1 b2:Bool} {z TI TO i1 i2 l1 l2:Addr} {k1 k2:Nat} {xs ys:Array Value} {x y a b:Value} {Q:Option Value→Shared→Prop} (D:ZipApart z TI TO i1 i2 l1 l2)
   (hz:IsZip s.heap z TI TO .none) (hTI:IsPair s.heap TI (.ref i1) (.ref i2)) (hTO:IsPair s.heap TO a b) (h1:qt b1 s.heap i1 l1 k1) (h2:qt b2 s.heap i2 l2 k2) (hl1:qbp b1 s.heap l1 xs) (hl2:qbp b2 s.heap l2 ys) (hx:xs[k1]? =some x) (hy:ys[k2]? =some y)
   (hQ:∀ h',IsZip h' z TI TO (rawInt s.heap.objs.size)→IsPair h' TO x y→qt b1 h' i1 l1 (k1+1)→qt b2 h' i2 l2 (k2+1)→IsPair h' s.heap.objs.size x y→h'.objs.size=s.heap.objs.size+1 →
     (∀ c o,c ≠ z→c ≠ TO→c ≠ i1→c ≠ i2→s.heap.get? c=some o→h'.get? c=some o)→Q (some (.ref s.heap.objs.size)) { s with heap:=h' }) :
   wpAny (model prog w) A (pyNext (.ref z)) Q E s:=by
 have hT:s.TypeIs (.ref z) "zip":=⟨_,hz,rfl⟩
 unfold pyNext
 exact wpAny_bind (wpAny_attempt (wpAny_callSpecial?_slot (name:=Str.ofString "__next__") hT F.slot_zip_next (wpAny_call_entry F.slot_zip_next hT F.entry_zip_next
     (qgu D hz hTI hTO h1 h2 hl1 hl2 hx hy fun h' a1 a2 a3 a4 a5 a6 a7=>wpAny_pure (hQ h' a1 a2 a3 a4 a5 a6 a7)) (F.args_zip_next_1 _))))
theorem qf7 {b1 b2:Bool} {z TI TO i1 i2 l1 l2:Addr} {k1 k2:Nat} {xs ys:Array Value} {a b:Value} {Q:Option Value→Shared→Prop} (hh:A.handled=none) (D:ZipApart z TI TO i1 i2 l1 l2)
   (hz:IsZip s.heap z TI TO .none) (hTI:IsPair s.heap TI (.ref i1) (.ref i2)) (hTO:IsPair s.heap TO a b) (h1:qt b1 s.heap i1 l1 k1) (h2:qt b2 s.heap i2 l2 k2) (hl1:qbp b1 s.heap l1 xs) (hl2:qbp b2 s.heap l2 ys) (hend:xs[k1]? =none∨ys[k2]? =none)
   (hQ:∀ h',(∀ c o,c ≠ z→c ≠ TO→c ≠ i1→c ≠ i2→s.heap.get? c=some o→h'.get? c=some o)→Q none { s with heap:=h' }):wpAny (model prog w) A (pyNext (.ref z)) Q E s:=by
 have hT:s.TypeIs (.ref z) "zip":=⟨_,hz,rfl⟩
 unfold pyNext
 refine wpAny_bind (wpAny_attempt (wpAny_callSpecial?_slot (name:=Str.ofString "__next__") hT F.slot_zip_next (wpAny_call_entry F.slot_zip_next hT F.entry_zip_next (qhz hh D hz hTI hTO h1 h2 hl1 hl2 hend fun h' e hk he=> ?_) (F.args_zip_next_1 _))))
 obtain ⟨o,ho,hc⟩:=he
 refine wpAny_bind (wpAny_isInstance (T:="StopIteration") (b:=true) ⟨o,ho,hc⟩ isSubtype_stop ?_)
 exact wpAny_pure (hQ _ hk)
end
noncomputable def SqS (K:PySem.W.Frag) (b:Bool) (H:Hp) (a:Addr) (xs:List V):Prop:=if b=true then SqL K H a xs else SqT K H a xs
section
variable {X:Cx} {pins:List (Addr × Obj)} {σ:St} {H:Hp} {s:Shared} {a:Addr} {xs ys:List V}
theorem Inv.seqS {b:Bool} (I:Inv X pins σ H s) (h:SqS X.K b H a xs):∃ its:List Value,Vals xs its∧qbp b s.heap a its.toArray∧xs.length≤sizeLine:=by
 cases b with
 | true =>
   obtain ⟨its,r,p,z⟩:=I.list (show SqL X.K H a xs from h)
   exact⟨its,r,p.isList,z⟩
 | false=>exact I.tuple (show SqT X.K H a xs from h)
theorem Inv.seqS_inj {b:Bool} (I:Inv X pins σ H s) (h:SqS X.K b H a xs) (h':SqS X.K b H a ys):xs=ys:=by
 cases b with
 | true=>exact I.list_inj (show SqL X.K H a xs from h) (show SqL X.K H a ys from h')
 | false=>exact I.tuple_inj (show SqT X.K H a xs from h) (show SqT X.K H a ys from h')
end
noncomputable def Itz (K:PySem.W.Frag) (b1 b2:Bool) (l1 l2:Addr):It :=
 ⟨fun i H=>(∃ xs x,SqS K b1 H l1 xs∧xs[i]? =some x)∧∃ ys y,SqS K b2 H l2 ys∧ys[i]? =some y,
  fun i H v H'=>∃ (p:Addr) (x y:V),H p=none∧v=.ref p∧H'=upd H p (.tup [x,y])∧(∀ xs,SqS K b1 H l1 xs→xs[i]? =some x)∧∀ ys,SqS K b2 H l2 ys→ys[i]? =some y,
  fun i H=>∃ xs ys,SqS K b1 H l1 xs∧SqS K b2 H l2 ys∧(xs.length≤i∨ys.length≤i)⟩
theorem qq7 {P:Program} {w:World} {K:PySem.W.Frag} {elts:List Expr} {k:Nat} {pos:Pos} {b1 b2:Bool} {z TI TO i1 i2 l1 l2:Addr} (D:ZipApart z TI TO i1 i2 l1 l2) :
   Turn P w K (.Tuple elts k pos) (Itz K b1 b2 l1 l2) [z,TI,TO,i1,i2] z (fun i h=>IsZip h z TI TO .none∧IsPair h TI (.ref i1) (.ref i2)∧(∃ a b,IsPair h TO a b)∧qt b1 h i1 l1 i∧qt b2 h i2 l2 i) where
 mem:=by simp
 obj:=fun i h st c hc=>by
   obtain ⟨hz,hTI,⟨a,b,hTO⟩,h1,h2⟩:=st
   simp only [List.mem_cons,List.not_mem_nil,or_false]at hc
   rcases hc with rfl | rfl | rfl | rfl | rfl
   · exact⟨_,hz,fun v q=>by cases q⟩
   · exact⟨_,hTI,fun v q=>by cases q⟩
   · exact⟨_,hTO,fun v q=>by cases q⟩
   · exact h1.here
   · exact h2.here
 keep:=fun i h h' st kk=>by
   obtain ⟨hz,hTI,⟨a,b,hTO⟩,h1,h2⟩:=st
   exact⟨kk z (by simp) _ hz,kk TI (by simp) _ hTI,⟨a,b,kk TO (by simp) _ hTO⟩,h1.at' fun o q=>kk i1 (by simp) o q,h2.at' fun o q=>kk i2 (by simp) o q⟩
 item:=by
   intro X hP hw hK hc i pins s σ H E I hf st hg
   subst hP hw hK
   obtain ⟨hz,hTI,⟨a,b,hTO⟩,h1,h2⟩:=st
   obtain ⟨⟨xs,x,hq,hx⟩,ys,y,hq',hy⟩:=hg
   obtain ⟨its,rv,p,_⟩:=I.seqS hq
   obtain ⟨its',rv',p',_⟩:=I.seqS hq'
   obtain ⟨u,hu,ru⟩:=rv.get hx
   obtain ⟨u',hu',ru'⟩:=rv'.get hy
   refine qe3 D hz hTI hTO h1 h2 p p' (x:=u) (y:=u') (by simpa using hu) (by simpa using hu') fun h' e1 e2 e3 e4 e5 e6 hk=> ?_
   refine⟨_,rfl,wpAny_letOwnedTupleGo_zip e1 fun h2' ez hs2=> ?_⟩
   have nz:s.heap.objs.size ≠ z:=Nat.ne_of_gt (Heap.lt_size hz)
   have lt:∀ c ∈ [z,TI,TO,i1,i2],c < s.heap.objs.size:=fun c hc=>by
     simp only [List.mem_cons,List.not_mem_nil,or_false]at hc
     rcases hc with rfl | rfl | rfl | rfl | rfl
     · exact Heap.lt_size hz
     · exact Heap.lt_size hTI
     · exact Heap.lt_size hTO
     · obtain ⟨o,q,_⟩:=h1.here;exact Heap.lt_size q
     · obtain ⟨o,q,_⟩:=h2.here;exact Heap.lt_size q
   have eTI:IsPair h2' TI (.ref i1) (.ref i2):=(hs2.2 _ D.TIz).trans (hk TI _ D.TIz D.TITO D.TIi1 D.TIi2 hTI)
   have eTO:IsPair h2' TO u u':=(hs2.2 _ D.TOz).trans e2
   have e3':qt b1 h2' i1 l1 (i+1):=e3.at' fun o q=>(hs2.2 _ D.i1z).trans q
   have e4':qt b2 h2' i2 l2 (i+1):=e4.at' fun o q=>(hs2.2 _ D.i2z).trans q
   have J:=I.turnedT (h':=h2') (t':=s.toks) (vs:=[x,y]) (its:=[u,u']) (ch:=[z,TI,TO,i1,i2]) hf
     (fun c o hc q=>(hs2.2 c (fun z=>hc (by simp [z]))).trans (hk c o (fun z=>hc (by simp [z])) (fun z=>hc (by simp [z])) (fun z=>hc (by simp [z])) (fun z=>hc (by simp [z])) q))
     (fun c hc=>by
       simp only [List.mem_cons,List.not_mem_nil,or_false]at hc
       rcases hc with rfl | rfl | rfl | rfl | rfl
       · exact⟨_,ez⟩
       · exact⟨_,eTI⟩
       · exact⟨_,eTO⟩
       · obtain ⟨o,q,_⟩:=e3'.here;exact⟨o,q⟩
       · obtain ⟨o,q,_⟩:=e4'.here;exact⟨o,q⟩) (.cons ru (.cons ru' .nil)) (by show 2≤sizeLine;decide) ⟨_,(hs2.2 _ nz).trans e5,rfl,_,rfl⟩
   have hn:H s.heap.objs.size=none:=I.hok.fresh (Nat.le_refl _)
   refine⟨.ref s.heap.objs.size,_,J,rfl,⟨_,x,y,hn,rfl,rfl,fun zs hz=>by rw[I.seqS_inj hz hq];exact hx,fun zs hz=>by rw[I.seqS_inj hz hq'];exact hy⟩,⟨ez,eTI,⟨_,_,eTO⟩,e3',e4'⟩,fun c hc=> ?_⟩
   rw[qc (Nat.ne_of_lt (lt c hc))]
   exact(hf c hc).1
 done:=by
   intro X hP hw hK hc i pins s σ H E I hf st hg
   subst hP hw hK
   obtain ⟨hz,hTI,⟨a,b,hTO⟩,h1,h2⟩:=st
   obtain ⟨xs,ys,hq,hq',hx⟩:=hg
   obtain ⟨its,rv,p,_⟩:=I.seqS hq
   obtain ⟨its',rv',p',_⟩:=I.seqS hq'
   have hl:=rv.length
   have hl':=rv'.length
   exact qf7 (I.ok.hd hc) D hz hTI hTO h1 h2 p p' (by simp;omega) fun h' hk=>⟨rfl,I.turnedN (t':=s.toks) hf fun c o hc q=>hk c o (fun z=>hc (by simp [z])) (fun z=>hc (by simp [z])) (fun z=>hc (by simp [z])) (fun z=>hc (by simp [z])) q⟩
 self:=fun _ _ s Q _ st h=>wpAny_pyIter_zip st.1 h
section
variable {X:Cx}
noncomputable def q4w (K:PySem.W.Frag) (ta:TA):TI:=fun σ H R=>ta σ H fun vs H1=>∃ (b1 b2:Bool) (l1 l2:Addr),vs=[.ref l1,.ref l2]∧(∃ xs,SqS K b1 H1 l1 xs)∧(∃ ys,SqS K b2 H1 l2 ys)∧R (Itz K b1 b2 l1 l2) H1
theorem qq8 {elts:List Expr} {k:Nat} {pos':Pos} {a b:Expr} {ta:TA} {p pos:Pos} (hg:Gl X "zip") (hm:X.mg "zip"=none) (ha:PA X [a,b] ta) (hs:starEach [a,b] X.env=[(false,eval a X.env),(false,eval b X.env)]:=by rfl) (hs2:starEach [b] X.env=[(false,eval b X.env)]:=by rfl) :
   PI X (.Tuple elts k pos') (.Call (.Name "zip" p) [a,b] [] pos) (q4w X.K ta):=by
 intro pins s σ H R I h
 refine Call_ (qcu I hg hm qx3 (PyProof.Rows.callWith_type1 (thn (ha pos pins s σ H _ I h) fun us s1 ⟨vs,H1,I1,r1,q1⟩=> ?_) (by rw[hs,hs2]) (by rw[hs2];rfl)))
 obtain ⟨b1,b2,l1,l2,e,⟨xs,hq⟩,⟨ys,hq'⟩,q⟩:=q1
 subst e
 obtain ⟨u,u',rfl,ru,ru'⟩:=r1.two
 cases ru
 cases ru'
 obtain ⟨its,rv,pl,_⟩:=I1.seqS hq
 obtain ⟨its',rv',pl',_⟩:=I1.seqS hq'
 have in1:l1 < s1.heap.objs.size:=by
   cases b1 with
   | true=>obtain ⟨o,e,_⟩:=(show s1.heap.IsList l1 its.toArray from pl);exact Heap.lt_size e
   | false=>obtain ⟨o,e,_⟩:=(show s1.heap.IsTuple l1 its.toArray from pl);exact Heap.lt_size e
 have in2:l2 < s1.heap.objs.size:=by
   cases b2 with
   | true=>obtain ⟨o,e,_⟩:=(show s1.heap.IsList l2 its'.toArray from pl');exact Heap.lt_size e
   | false=>obtain ⟨o,e,_⟩:=(show s1.heap.IsTuple l2 its'.toArray from pl');exact Heap.lt_size e
 refine qpg pl pl' fun h' e1 e2 e3 e4 e5 hk=> ?_
 refine wpAny_pyIter_zip e1 ?_
 have fr:∀ c,s1.heap.objs.size≤c→H1 c=none:=fun c hc=>I1.hok.fresh hc
 refine⟨_,_,_,_,H1,rfl,I1.kept (t':=s1.toks) hk,qq7 (b1:=b1) (b2:=b2) (zipApart_new in1 in2),⟨e1,e2,⟨_,_,e3⟩,e4,e5⟩,fun c hc=> ?_,q⟩
 have hc':s1.heap.objs.size≤c:=by
   simp only [List.mem_cons,List.not_mem_nil,or_false]at hc
   rcases hc with rfl | rfl | rfl | rfl | rfl
   · exact Nat.le_add_right _ _
   · exact Nat.le_add_right _ _
   · exact Nat.le_add_right _ _
   · exact Nat.le_refl _
   · exact Nat.le_add_right _ _
 exact I1.fpOk hc' (fr c hc')
end
section
variable {X:Cx}
theorem qk6 {bs:List Bool} {its:List Value} (rv:Vals (bs.map V.bl) its):∀ (i:Nat) (v:Value),its[i]? =some v→v=Value.bool (bs.getD i true):=fun i v e=>by
 have hl:=rv.length
 have hi:i < its.length:=(List.getElem?_eq_some_iff.mp e).1
 have hb:i < bs.length:=by simpa [← hl]using hi
 obtain ⟨u,e2,r⟩:=rv.get (i:=i) (x:=.bl bs[i]) (by simp [hb])
 rw[e]at e2;cases e2
 have:v=Value.bool bs[i]:=r
 rw[this];simp [List.getD_eq_getElem?_getD,hb]
theorem qt0 {ns:List Int} {its:List Value} (rv:Vals (ns.map V.int) its):∀ (i:Nat) (v:Value),its[i]? =some v→∃ t,v=Value.int (ns.getD i 0) t:=fun i v e=>by
 have hl:=rv.length
 have hi:i < its.length:=(List.getElem?_eq_some_iff.mp e).1
 have hb:i < ns.length:=by simpa [← hl]using hi
 obtain ⟨u,e2,r⟩:=rv.get (i:=i) (x:=.int ns[i]) (by simp [hb])
 rw[e]at e2;cases e2
 obtain ⟨t,rfl⟩:=r
 exact⟨t,by simp [List.getD_eq_getElem?_getD,hb]⟩
theorem range_all (bs:List Bool):(List.range bs.length).all (fun i=>bs.getD i true)=bs.all id:=by
 rw[Bool.eq_iff_iff]
 simp only [List.all_eq_true,List.mem_range]
 constructor
 · intro h b hb
   obtain ⟨i,hi,rfl⟩:=List.getElem_of_mem hb
   have:=h i hi
   simpa [List.getD_eq_getElem?_getD,hi]using this
 · intro h i hi
   have:=h bs[i] (List.getElem_mem hi)
   simpa [List.getD_eq_getElem?_getD,hi]using this
theorem range_any (bs:List Bool):(List.range bs.length).any (fun i=>bs.getD i true)=bs.any id:=by
 rw[Bool.eq_iff_iff]
 simp only [List.any_eq_true,List.mem_range]
 constructor
 · rintro ⟨i,hi,h⟩
   exact⟨bs[i],List.getElem_mem hi,by simpa [List.getD_eq_getElem?_getD,hi]using h⟩
 · rintro ⟨b,hb,h⟩
   obtain ⟨i,hi,rfl⟩:=List.getElem_of_mem hb
   exact⟨i,hi,by simpa [List.getD_eq_getElem?_getD,hi]using h⟩
theorem qfr (ns:List Int):∀ k,k≤ns.length→preSum (fun i=>ns.getD i 0) k=(ns.take k).sum
 | 0,_=>by simp [preSum]
 | k+1,h=>by
   have hk:k < ns.length:=h
   have e:ns.take (k+1)=ns.take k++[ns[k]]:=by simp
   rw[preSum,qfr ns k (Nat.le_of_lt hk),e,List.sum_append,List.getD_eq_getElem?_getD]
   simp [hk]
theorem qmz (ns:List Int):preSum (fun i=>ns.getD i 0) ns.length=ns.sum:=by
 rw[qfr ns _ (Nat.le_refl _),List.take_length]
noncomputable def q4x (K:PySem.W.Frag):List V→Hp→VK→Prop:=fun vs H Q=>∃ (l:Addr) (bs:List Bool),vs=[.ref l]∧SqL K H l (bs.map V.bl)∧Q (.bl (bs.all id)) H
noncomputable def q4y (K:PySem.W.Frag):List V→Hp→VK→Prop:=fun vs H Q=>∃ (l:Addr) (bs:List Bool),vs=[.ref l]∧SqL K H l (bs.map V.bl)∧Q (.bl (bs.any id)) H
noncomputable def q4z (K:PySem.W.Frag):List V→Hp→VK→Prop:=fun vs H Q=>∃ (l:Addr) (ns:List Int),vs=[.ref l]∧SqL K H l (ns.map V.int)∧Q (.int ns.sum) H
theorem qq9 (hc:X.calm=true):qx X (.builtin "all") (q4x X.K):=by
 intro pins s σ H xs us Q I r h
 obtain ⟨l,bs,rfl,hq,q⟩:=h
 obtain ⟨u,rfl,ru⟩:=r.one
 cases ru
 obtain ⟨its,rv,p,hz⟩:=I.list hq
 have hl:=rv.length
 have hlt:l < s.heap.objs.size:=by obtain ⟨o,e,_⟩:=p.isList;exact Heap.lt_size e
 refine call_all_walk (wpAny_pyIter_list p.isList ⟨_,_,_,_,_,_,fun i=>bs.getD i true,rfl,Walks.list (A:=X.A.in1) (I.ok.hd hc) _ l (Nat.ne_of_lt hlt) its.toArray,⟨⟨_,Heap.get?_push_size _ rfl,rfl,rfl⟩,p.isList.push _⟩,?_,fun h' tk hk=> ?_⟩)
 · intro i v s' Q' E' hv hq'
   rw[qk6 rv i v (by simpa using hv)]
   exact wpAny_truthy_bool hq'
 · have e:(List.range its.toArray.size).all (fun i=>bs.getD i true)=bs.all id:=by
     rw[List.size_toArray,← hl,List.length_map];exact range_all bs
   rw[e]
   exact⟨.bl _,H,I.kept fun b o eb=>hk b o (fun z=>Nat.ne_of_lt (Heap.lt_size eb) (by simpa using z)) (Heap.get?_push_of_some _ eb),rfl,q⟩
theorem qra (hc:X.calm=true):qx X (.builtin "any") (q4y X.K):=by
 intro pins s σ H xs us Q I r h
 obtain ⟨l,bs,rfl,hq,q⟩:=h
 obtain ⟨u,rfl,ru⟩:=r.one
 cases ru
 obtain ⟨its,rv,p,hz⟩:=I.list hq
 have hl:=rv.length
 have hlt:l < s.heap.objs.size:=by obtain ⟨o,e,_⟩:=p.isList;exact Heap.lt_size e
 refine call_any_walk (wpAny_pyIter_list p.isList ⟨_,_,_,_,_,_,fun i=>bs.getD i true,rfl,Walks.list (A:=X.A.in1) (I.ok.hd hc) _ l (Nat.ne_of_lt hlt) its.toArray,⟨⟨_,Heap.get?_push_size _ rfl,rfl,rfl⟩,p.isList.push _⟩,?_,fun h' tk hk=> ?_⟩)
 · intro i v s' Q' E' hv hq'
   rw[qk6 rv i v (by simpa using hv)]
   exact wpAny_truthy_bool hq'
 · have e:(List.range its.toArray.size).any (fun i=>bs.getD i true)=bs.any id:=by
     rw[List.size_toArray,← hl,List.length_map];exact range_any bs
   rw[e]
   exact⟨.bl _,H,I.kept fun b o eb=>hk b o (fun z=>Nat.ne_of_lt (Heap.lt_size eb) (by simpa using z)) (Heap.get?_push_of_some _ eb),rfl,q⟩
theorem qrb (hc:X.calm=true):qx X (.builtin "sum") (q4z X.K):=by
 intro pins s σ H xs us Q I r h
 obtain ⟨l,ns,rfl,hq,q⟩:=h
 obtain ⟨u,rfl,ru⟩:=r.one
 cases ru
 obtain ⟨its,rv,p,hz⟩:=I.list hq
 have hl:=rv.length
 have hlt:l < s.heap.objs.size:=by obtain ⟨o,e,_⟩:=p.isList;exact Heap.lt_size e
 refine call_sum_walkG (wpAny_pyIter_list p.isList ⟨_,_,_,_,_,_,fun i=>ns.getD i 0,rfl,Walks.list (A:=X.A.in1) (I.ok.hd hc) _ l (Nat.ne_of_lt hlt) its.toArray,⟨⟨_,Heap.get?_push_size _ rfl,rfl,rfl⟩,p.isList.push _⟩,?_,?_,fun h' tk t' hk=> ?_⟩)
 · intro b hb
   rw[Heap.size_push]
   simp only [List.mem_cons,List.not_mem_nil,or_false]at hb
   rcases hb with rfl | rfl
   · exact Nat.lt_succ_self _
   · exact Nat.lt_succ_of_lt hlt
 · intro i v hv
   exact qt0 rv i v (by simpa using hv)
 · have e:preSum (fun i=>ns.getD i 0) its.toArray.size=ns.sum:=by
     rw[List.size_toArray,← hl,List.length_map];exact qmz ns
   rw[e]
   exact⟨.int _,H,I.kept fun b o eb=>hk b o (fun z=>Nat.ne_of_lt (Heap.lt_size eb) (by simpa using z)) (Heap.get?_push_of_some _ eb),⟨_,rfl⟩,q⟩
end
section
variable {X:Cx} {K:PySem.W.Frag}
theorem q40 (hK:X.K=K):SlR X (q1u K):=by subst hK;exact qn0
theorem qt1 (hK:X.K=K):qx X (.type "list") (fun xs H Q=>∃ p ys,xs=[.ref p]∧(SqL K H p ys∨SqT K H p ys)∧∀ l,H l=none→Q (.ref l) (upd H l (.lst ys))):=by subst hK;exact qek
end
section
variable {κ:Type} [DecidableEq κ]
noncomputable def qe4 (kvs:List (κ × V)) (k:κ):Option V:=(kvs.find? fun kv=>decide (kv.1=k)).map (·.2)
noncomputable def putK (kvs:List (κ × V)) (k:κ) (v:V):List (κ × V) :=
 if (kvs.any fun kv=>decide (kv.1=k))=true then kvs.map (fun kv=>if kv.1=k then (kv.1,v)else kv)else kvs++[(k,v)]
theorem qcy {p:κ × V} {r:List (κ × V)} {k:κ} (e:p.1=k):qe4 (p::r) k=some p.2:=by simp [qe4,List.find?_cons,e]
theorem qcz {p:κ × V} {r:List (κ × V)} {k:κ} (e:¬ p.1=k):qe4 (p::r) k=qe4 r k:=by simp [qe4,List.find?_cons,e]
theorem qk7 (k:κ):∀ kvs:List (κ × V),(kvs.any fun kv=>decide (kv.1=k))=(qe4 kvs k).isSome
 | []=>rfl
 | p::r=>by
   rw[List.any_cons]
   by_cases e:p.1=k
   · simp only [qcy e,decide_eq_true e,Bool.true_or,Option.isSome_some]
   · rw[qcz e,decide_eq_false e,Bool.false_or];exact qk7 k r
theorem qfs (kvs:List (κ × V)) (k:κ) (v:V):(putK kvs k v).length≤kvs.length+1:=by
 unfold putK
 split
 · rw[List.length_map];omega
 · rw[List.length_append,List.length_cons,List.length_nil];omega
theorem qgm.isSome_eq {o:Option V} {u:Option Value} (r:qgm o u):o.isSome=u.isSome:=by
 cases o with
 | none=>cases u with
   | none=>rfl
   | some _=>exact(show False from r).elim
 | some _=>cases u with
   | none=>exact(show False from r).elim
   | some _=>rfl
theorem KV.val {kvs:List (κ × V)} {vs:List (κ × Value)} (r:KV kvs vs) (k:κ):qgm (qe4 kvs k) (valueAt vs k):=by
 unfold KV at r
 induction r with
 | nil=>exact True.intro
 | @cons p q ps qs h t ih =>
   obtain ⟨h1,h2⟩:=h
   by_cases e:p.1=k
   · have e':q.1=k:=h1.symm.trans e
     have b:valueAt (q::qs) k=some q.2:=by simp [valueAt,List.find?_cons,e']
     rw[qcy e,b];exact h2
   · have e':¬ q.1=k:=fun z=>e (h1.trans z)
     have b:valueAt (q::qs) k=valueAt qs k:=by simp [valueAt,List.find?_cons,e']
     rw[qcz e,b];exact ih
theorem KV.any {kvs:List (κ × V)} {vs:List (κ × Value)} (r:KV kvs vs) (k:κ):(kvs.any fun kv=>decide (kv.1=k))=vs.any fun kv=>decide (kv.1=k):=by
 unfold KV at r
 induction r with
 | nil=>rfl
 | cons h t ih=>rw[List.any_cons,List.any_cons,ih,h.1]
theorem KV.repl {kvs:List (κ × V)} {vs:List (κ × Value)} (r:KV kvs vs) (k:κ) {y:V} {u:Value} (ry:RelV y u) :
   KV (kvs.map fun kv=>if kv.1=k then (kv.1,y)else kv) (vs.map fun kv=>if kv.1=k then (kv.1,u)else kv):=by
 unfold KV at r ⊢
 induction r with
 | nil=>exact .nil
 | @cons p q ps qs h t ih =>
   rw[List.map_cons,List.map_cons]
   refine .cons ?_ ih
   obtain ⟨h1,h2⟩:=h
   by_cases e:p.1=k
   · rw[if_pos e,if_pos (h1.symm.trans e)];exact⟨h1,ry⟩
   · rw[if_neg e,if_neg (fun z=>e (h1.trans z))];exact⟨h1,h2⟩
theorem KV.put {kvs:List (κ × V)} {vs:List (κ × Value)} (r:KV kvs vs) (k:κ) {y:V} {u:Value} (ry:RelV y u):KV (putK kvs k y) (stored vs k u):=by
 unfold putK stored
 rw[r.any k]
 by_cases e:(vs.any fun kv=>decide (kv.1=k))=true
 · rw[if_pos e,if_pos e];exact r.repl k ry
 · rw[if_neg e,if_neg e];exact Paired.snoc r ⟨rfl,ry⟩
theorem KV.length {kvs:List (κ × V)} {vs:List (κ × Value)} (r:KV kvs vs):kvs.length=vs.length:=Paired.length r
end
theorem qft {P:Program} {w:World} {k:Key} {u:Value} (r:RelV (kV k) u):(qm P w).is k u=true:=by
 cases k with
 | inl i=>obtain ⟨t,e⟩:=(show ∃ t,u=Value.int i t from r);subst e;exact qku P w i t
 | inr x=>obtain ⟨t,e⟩:=(show ∃ t,u=Value.str x t from r);subst e;exact qkv P w x t
theorem qis {P:Program} {w:World}:∀ {ks:List Key} {us:List Value},Vals (ks.map kV) us→ItemsAre (qm P w) ks us
 | [],_,r=>by rw[List.map_nil]at r;cases r;exact .nil
 | k::ks,_,r=>by
   rw[List.map_cons]at r
   cases r with
   | cons h t=>exact .cons (qft h) (qis t)
noncomputable abbrev KT (H:Hp):List (List Key × V)→List (List Key × Addr × Value)→Prop:=Paired fun p q=>p.1=q.1∧H q.2.1=some (.tup (p.1.map kV))∧RelV p.2 q.2.2
theorem KT.val {H:Hp} {kvs:List (List Key × V)} {xs:List (List Key × Addr × Value)} (r:KT H kvs xs) (k:List Key):qgm (qe4 kvs k) ((atKey xs k).map (·.2)):=by
 induction r with
 | nil=>exact True.intro
 | @cons p q ps qs h t ih =>
   obtain ⟨h1,_,h2⟩:=h
   by_cases e:p.1=k
   · have e':q.1=k:=h1.symm.trans e
     have b:atKey (q::qs) k=some q.2:=by simp [atKey,List.find?_cons,e']
     rw[qcy e,b];exact h2
   · have e':¬ q.1=k:=fun z=>e (h1.trans z)
     have b:atKey (q::qs) k=atKey qs k:=by simp [atKey,List.find?_cons,e']
     rw[qcz e,b];exact ih
theorem KT.repl {H:Hp} {kvs:List (List Key × V)} {xs:List (List Key × Addr × Value)} (r:KT H kvs xs) (k:List Key) {y:V} {u:Value} (ry:RelV y u) :
   KT H (kvs.map fun kv=>if kv.1=k then (kv.1,y)else kv) (xs.map (putAt k u)):=by
 induction r with
 | nil=>exact .nil
 | @cons p q ps qs h t ih =>
   rw[List.map_cons,List.map_cons]
   refine .cons ?_ ih
   obtain ⟨h1,h2,h3⟩:=h
   unfold putAt
   by_cases e:p.1=k
   · rw[if_pos e,if_pos (h1.symm.trans e)];exact⟨h1,h2,ry⟩
   · rw[if_neg e,if_neg (fun z=>e (h1.trans z))];exact⟨h1,h2,h3⟩
theorem KT.put {H:Hp} {kvs:List (List Key × V)} {xs:List (List Key × Addr × Value)} (r:KT H kvs xs) (k:List Key) {b:Addr} {y:V} {u:Value} (hb:H b=some (.tup (k.map kV))) (ry:RelV y u) :
   KT H (putK kvs k y) (storedH xs k b u):=by
 have e:(kvs.any fun kv=>decide (kv.1=k))=(atKey xs k).isSome:=by
   rw[qk7,(r.val k).isSome_eq,Option.isSome_map]
 unfold putK storedH
 rw[e]
 by_cases q:(atKey xs k).isSome=true
 · rw[if_pos q,if_pos q];exact r.repl k ry
 · rw[if_neg q,if_neg q];exact Paired.snoc r ⟨rfl,hb,ry⟩
theorem KT.keeps {H H':Hp} {kvs:List (List Key × V)} {xs:List (List Key × Addr × Value)} (r:KT H kvs xs) (ht:∀ b ys,H b=some (.tup ys)→H' b=some (.tup ys)):KT H' kvs xs :=
 Paired.mapP r fun _ _ z=>⟨z.1,ht _ _ z.2.1,z.2.2⟩
section
variable {P:Program} {w:World} {H:Hp} {h:Heap} {a:Addr}
theorem qwd {u:HO} (ok:HOk P w H h) (e:Rd H a u):qw P w H h a u:=e.ok ok
theorem qen {kvs:List (Key × V)} (ok:HOk P w H h) (e:Rd H a (.dK kvs)):kvs.length≤sizeLine∧(a==sysModules)=false∧∃ vs,KV kvs vs∧h.DictOf (qm P w) a vs :=
 show qw P w H h a (.dK kvs) from qwd ok e
theorem q12 {kvs:List (Key × V)} (ok:HOk P w H h) (e:H a=some (.dK kvs)):kvs.length≤sizeLine∧(a==sysModules)=false∧∃ vs,KV kvs vs∧h.DictOf (qm P w) a vs:=qen ok (.inl e)
theorem qgw {ks:List Key} (ok:HOk P w H h) (e:H a=some (.tup (ks.map kV))):(tupleKind (qm P w)).is h ks a:=by
 obtain ⟨_,its,r,o,h1,h2,n,h3⟩:=(show qw P w H h a (.tup (ks.map kV)) from ok a _ e)
 exact⟨o,its.toArray,n,h1,h2,h3,by simpa using qis r⟩
theorem qk8 {kvs:List (List Key × V)} (ok:HOk P w H h) (e:Rd H a (.dT kvs)):kvs.length≤sizeLine∧(a==sysModules)=false ∧
   ∃ xs,KT H kvs xs∧h.DictOfH (tupleKind (qm P w)) a xs:=by
 obtain ⟨z,y,xs,r,o,es,ep,h1,h2,h3,h4,h5⟩:=(show qw P w H h a (.dT kvs) from qwd ok e)
 refine⟨z,y,xs,r,o,es,ep,h1,h2,h3,h4,fun x hx=> ?_,h5⟩
 have all:∀ {l:List (List Key × V)} {m:List (List Key × Addr × Value)},KT H l m→∀ x ∈ m,(tupleKind (qm P w)).is h x.1 x.2.1:=by
   intro l m q
   induction q with
   | nil=>intro x hx;exact nomatch hx
   | @cons p q ps qs hq t ih =>
     intro x hx
     rcases List.mem_cons.mp hx with e | hx
     · subst e
       exact qgw ok (by rw[← hq.1];exact hq.2.1)
     · exact ih x hx
 exact all r x hx
theorem q13 {kvs:List (List Key × V)} (ok:HOk P w H h) (e:H a=some (.dT kvs)):kvs.length≤sizeLine∧(a==sysModules)=false ∧
   ∃ xs,KT H kvs xs∧h.DictOfH (tupleKind (qm P w)) a xs:=qk8 ok (.inl e)
end
noncomputable def qgx (H:Hp) (a:Addr) (y:V) (r:Option V):Prop :=
 (∃ kvs k,Rd H a (.dK kvs)∧y=kV k∧r=qe4 kvs k)∨∃ kvs k b,Rd H a (.dT kvs)∧y=.ref b∧H b=some (.tup (k.map kV))∧r=qe4 kvs k
noncomputable def qrc (H:Hp) (a:Addr) (y v:V) (H':Hp):Prop :=
 (∃ kvs k,H a=some (.dK kvs)∧y=kV k∧kvs.length < sizeLine∧H'=upd H a (.dK (putK kvs k v))) ∨
 ∃ kvs k b,H a=some (.dT kvs)∧y=.ref b∧H b=some (.tup (k.map kV))∧kvs.length < sizeLine∧H'=upd H a (.dT (putK kvs k v))
theorem qrc.k {H:Hp} {a:Addr} {kvs:List (Key × V)} {k:Key} {v:V} (e:H a=some (.dK kvs)) (hl:kvs.length < sizeLine):qrc H a (kV k) v (upd H a (.dK (putK kvs k v))):=.inl ⟨kvs,k,e,rfl,hl,rfl⟩
section
variable {X:Cx} {pins:List (Addr × Obj)} {σ:St} {H:Hp} {s:Shared} {a:Addr} {y v:V} {u r:Value} {o:Option V} {A:Around} {E:Value→Shared→Prop}
theorem Inv.big (I:Inv X pins σ H s):sysModules < s.heap.objs.size:=by
 have h:mainGlobals < s.heap.objs.size:=(I.mod.glob.keeps I.bk).lt
 exact Nat.lt_trans (by decide) h
theorem qit {Q:Value→Shared→Prop} (hu:A.units+1 < cLine) (I:Inv X pins σ H s) (g:qgx H a y (some v)) (ry:RelV y u) (h:∀ w' s',Inv X pins σ H s'→RelV v w'→Q w' s') :
   wpAny (model X.prog X.w) A (getItem (.ref a) u) Q E s:=by
 rcases g with ⟨kvs,k,e,ey,l⟩ | ⟨kvs,k,b,e,ey,eb,l⟩
 · subst ey
   obtain ⟨z,hd,vs,rel,dd⟩:=qen I.hok e
   obtain ⟨w',hw,rw'⟩:=qgm.some_of (v:=v) (o:=valueAt vs k) (by rw[l];exact rel.val k)
   exact wpAny_getItem_of (qft ry) dd.mapOf hw (h w' _ (I.tok _) rw')
 · subst ey
   cases (show u=Value.ref b from ry)
   obtain ⟨z,hd,xs,rel,dd⟩:=qk8 I.hok e
   obtain ⟨w',hw,rw'⟩:=qgm.some_of (v:=v) (o:=(atKey xs k).map (·.2)) (by rw[l];exact rel.val k)
   obtain ⟨p,hp,hp2⟩:=Option.map_eq_some_iff.mp hw
   refine wpAny_getItem_heap (tupleKind_room_in1 hu) (qgw I.hok eb) dd hp ?_
   rw[hp2]
   exact h w' _ (I.tok _) rw'
theorem q41 {Q:Value→Shared→Prop} (hu:A.units+1 < cLine) (I:Inv X pins σ H s) (g:qgx H a y o) (ry:RelV y u) (h:∀ s',Inv X pins σ H s'→Q (.bool o.isSome) s') :
   wpAny (model X.prog X.w) A (compareOp .In u (.ref a)) Q E s:=by
 rcases g with ⟨kvs,k,e,ey,l⟩ | ⟨kvs,k,b,e,ey,eb,l⟩
 · subst ey
   obtain ⟨z,hd,vs,rel,dd⟩:=qen I.hok e
   refine wpAny_in_of (qft ry) hd dd.mapOf ?_
   rw[← (rel.val k).isSome_eq,← l]
   exact h _ (I.tok _)
 · subst ey
   cases (show u=Value.ref b from ry)
   obtain ⟨z,hd,xs,rel,dd⟩:=qk8 I.hok e
   refine wpAny_in_heap (tupleKind_room_in1 hu) (qgw I.hok eb) hd dd ?_
   have q:=(rel.val k).isSome_eq
   rw[Option.isSome_map]at q
   rw[← q,← l]
   exact h _ (I.tok _)
theorem qt2 {Q:Value→Shared→Prop} (hu:A.units+1 < cLine) (I:Inv X pins σ H s) (g:qgx H a y o) (ry:RelV y u) (h:∀ s',Inv X pins σ H s'→Q (.bool (!o.isSome)) s') :
   wpAny (model X.prog X.w) A (compareOp .NotIn u (.ref a)) Q E s:=by
 rcases g with ⟨kvs,k,e,ey,l⟩ | ⟨kvs,k,b,e,ey,eb,l⟩
 · subst ey
   obtain ⟨z,hd,vs,rel,dd⟩:=qen I.hok e
   refine wpAny_notIn_of (qft ry) hd dd.mapOf ?_
   rw[← (rel.val k).isSome_eq,← l]
   exact h _ (I.tok _)
 · subst ey
   cases (show u=Value.ref b from ry)
   obtain ⟨z,hd,xs,rel,dd⟩:=qk8 I.hok e
   refine wpAny_notIn_heap (tupleKind_room_in1 hu) (qgw I.hok eb) hd dd ?_
   have q:=(rel.val k).isSome_eq
   rw[Option.isSome_map]at q
   rw[← q,← l]
   exact h _ (I.tok _)
theorem qn1 {h':Heap} {t':Nat} {ob:HO} (I:Inv X pins σ H s) (mu:Mut (H a)) (hs:Heap.SameBut a s.heap h') (he:∃ q,h'.get? a=some q) (new:qw X.prog X.w (upd H a ob) h' a ob) :
   Inv X pins σ (upd H a ob) { s with heap:=h',toks:=t' } :=
 I.write (x:=a) (e:=a) mu (.inl rfl) (fun b q hb z=>(hs.2 b hb).trans z) he new
theorem qyb {P:Program} {w:World} {H':Hp} {h':Heap} {kvs:List (Key × V)} {vs:List (Key × Value)} (z:kvs.length≤sizeLine) (hd:(a==sysModules)=false) (rel:KV kvs vs) (dd:h'.DictOf (qm P w) a vs) :
   qw P w H' h' a (.dK kvs):=⟨z,hd,vs,rel,dd⟩
theorem qph {H':Hp} {Q:Unit→Shared→Prop} (hu:A.units+1 < cLine) (I:Inv X pins σ H s) (g:qrc H a y v H') (ry:RelV y u) (rv:RelV v r) (h:∀ s',Inv X pins σ H' s'→Q () s') :
   wpAny (model X.prog X.w) A (setItem (.ref a) u r) Q E s:=by
 rcases g with ⟨kvs,k,e,ey,l,eH⟩ | ⟨kvs,k,b,e,ey,eb,l,eH⟩
 · subst ey eH
   obtain ⟨z,hd,vs,rel,dd⟩:=q12 I.hok e
   have hz:vs.length≤sizeLine:=by rw[← rel.length];exact z
   have hl:(putK kvs k v).length≤sizeLine:=by have:=qfs kvs k v;omega
   refine wpAny_setItem_pairs (hsz:=hz) (qft ry) dd fun h' dd' hs=>h _ ?_
   have he:∃ q,h'.get? a=some q:=let ⟨q,_,_,hq,_⟩:=dd';⟨q,hq⟩
   exact qn1 I (by rw[e];exact True.intro) hs he (qyb hl hd (rel.put k rv) dd')
 · subst ey eH
   cases (show u=Value.ref b from ry)
   obtain ⟨z,hd,xs,rel,dd⟩:=q13 I.hok e
   have hz:xs.length≤sizeLine:=by rw[← Paired.length rel];exact z
   have hl:(putK kvs k v).length≤sizeLine:=by have:=qfs kvs k v;omega
   refine wpAny_setItem_heap (hsz:=hz) (tupleKind_room_in1 hu) (qgw I.hok eb) dd fun h' dd' hs=>h _ ?_
   obtain ⟨q,es,ep,hq,h2,h3,h4,_,h5⟩:=dd'
   refine qn1 I (by rw[e];exact True.intro) hs ⟨q,hq⟩ ⟨hl,hd,_,(rel.put k eb rv).keeps fun c ys ec=> ?_,q,es,ep,hq,h2,h3,h4,h5⟩
   rw[qc (q02 ec e (fun z=>nomatch z))]
   exact ec
end
section
variable {X:Cx} {pins:List (Addr × Obj)} {σ:St} {H:Hp} {s:Shared} {a:Addr} {kvs:List (Key × V)} {k:Key} {u:Value} {A:Around} {E:Value→Shared→Prop}
theorem q14 {Q:Value→Shared→Prop} (I:Inv X pins σ H s) (e:Rd H a (.dK kvs)) (h:∀ t s',Inv X pins σ H s'→Q (.int kvs.length t) s'):wpAny (model X.prog X.w) A (call (.builtin "len") [.ref a]) Q E s:=by
 obtain ⟨z,hd,vs,rel,dd⟩:=qen I.hok e
 refine call_len_dict hd dd (by rw[← rel.length];rw[sizeLine_eq]at z;omega) ?_
 rw[← rel.length]
 exact h _ _ (I.tok _)
theorem qt3 {Q:Bool→Shared→Prop} (I:Inv X pins σ H s) (e:Rd H a (.dK kvs)) (h:∀ s',Inv X pins σ H s'→Q (!kvs.isEmpty) s'):wpAny (model X.prog X.w) A (truthy (.ref a)) Q E s:=by
 obtain ⟨z,hd,vs,rel,dd⟩:=qen I.hok e
 refine wpAny_truthy_dict hd dd (by rw[← rel.length];rw[sizeLine_eq]at z;omega) ?_
 have q:kvs.isEmpty=vs.isEmpty:=by cases rel <;> rfl
 rw[← q]
 exact h _ (I.tok _)
end
noncomputable def qyc (i:Expr):Prop:=∀ ov iv,subscripted i false ov iv=operate [ov,iv] (getItem ov iv)
theorem qt4 {prog:Program} {w:World} {A:Around} {E:Value→Shared→Prop} {s:Shared} {env:Env} {value slice:Expr} {pos:Pos} {T id:String} {Q:Value→Shared→Prop}
   (hl:typeLookup (.type T) "__getitem__"=pure (some (.builtin id))) (hs:qyc slice)
   (h:wpAny (model prog w) A (eval value env) (fun o s₁=>wpAny (model prog w) A (eval slice env) (fun i s₂=>s₂.TypeIs o T∧wpAny (model prog w) A (getItem o i) Q E s₂) E s₁) E s) :
   wpAny (model prog w) A (eval (.Subscript value slice pos) env) Q E s:=by
 refine Subscript_ (wpAny_mono h (fun o s₁ h₁=>wpAny_mono h₁ (fun i s₂ h₂=> ?_) fun _ _ x=>x) fun _ _ x=>x)
 obtain ⟨hT,h₂⟩:=h₂
 unfold subscriptTail
 refine wpAny_bind ?_
 rw[getitemInPython_of_ne hT.not_modules]
 refine wpAny_bind (wpAny_specialOf hT hl ?_)
 have fin:wpAny (model prog w) A (subscripted slice false o i) (fun r s₃=>wpAny (model prog w) A (letTemporaryGo value o r >>= fun _=>pure r) Q E s₃) E s₂:=by
   rw[hs o i]
   exact wpAny_operating (wpAny_mono h₂ (fun r s₃ h₃=>wpAny_bind (wpAny_letTemporaryGo (wpAny_pure h₃))) fun _ _ x=>x)
 first
   | exact wpAny_pure (wpAny_bind fin)
   | exact wpAny_bind (wpAny_pure (wpAny_bind fin))
   | exact wpAny_bind fin
theorem qk9 {X:Cx} {pins:List (Addr × Obj)} {σ:St} {H:Hp} {s:Shared} {a:Addr} {y:V} {o:Option V} (I:Inv X pins σ H s) (g:qgx H a y o):s.TypeIs (.ref a) "dict":=by
 rcases g with ⟨kvs,k,e,_,_⟩ | ⟨kvs,k,b,e,_,_,_⟩
 · obtain ⟨_,_,vs,_,dd⟩:=qen I.hok e
   exact dd.typeIs
 · obtain ⟨_,_,xs,_,dd⟩:=qk8 I.hok e
   exact dd.typeIs
theorem qrd {P:Program} {w:World} {H:Hp} (h:Heap) (hb:sysModules < h.objs.size):qw P w H (h.push { cls:=.type "dict",data:=.dict #[] }) h.objs.size (.dK []) :=
 ⟨Nat.zero_le _,beq_eq_false_iff_ne.mpr (Ne.symm (Nat.ne_of_lt hb)),[],.nil,Heap.DictOf.new h⟩
noncomputable def qyd:TE:=fun _ H Q=>∀ p,H p=none→Q (.ref p) (upd H p (.dK []))
section
variable {X:Cx} {pos:Pos}
theorem qre:PE X (.Dict [] [] pos) qyd:=fun pins s σ H Q I h =>
 wpAny_Dict_empty ⟨.ref s.heap.objs.size,_,I.laid (a:=s.heap.objs.size) (o:=.dK []) (t':=s.toks) (fun _ _ q=>Heap.get?_push_of_some _ q) (Nat.le_refl _) (qrd s.heap I.big),rfl,h _ (I.hok.fresh (Nat.le_refl _))⟩
end
end L2
namespace T3
open PySem PySem.Spec PyProof.Rows L2
noncomputable abbrev St:=L2.St
theorem qiu {N:List Addr} (hN:N.Nodup) {i j:Nat} {x:Addr} (a:N[i]? =some x) (b:N[j]? =some x):i=j:=by
 obtain ⟨h1,e1⟩:=List.getElem?_eq_some_iff.mp a
 obtain ⟨h2,e2⟩:=List.getElem?_eq_some_iff.mp b
 exact(List.getElem_inj hN).mp (e1.trans e2.symm)
inductive D where
 | non | bl (b:Bool) | int (i:Int) | str (x:Str) | ty (n:String) | at_ (a:Addr) | ref (l:Nat)
 | lst (xs:List D) | tup (xs:List D) | dct (ks:List Key) (xs:List D) | obj (C:Addr) (fs:List Str) (xs:List D)
structure Wd where
 ρ:List Addr
 Z:Addr→Prop
mutual
noncomputable def Rep (w:Wd) (H:Hp):D→V→Prop
 | .non,v=>v=.non
 | .bl b,v=>v=.bl b
 | .int i,v=>v=.int i
 | .str x,v=>v=.str x
 | .ty n,v=>v=.ty n
 | .at_ a,v=>v=.ref a
 | .ref l,v=>∃ a,w.ρ[l]? =some a∧v=.ref a
 | .lst xs,v=>∃ a vs,v=.ref a∧w.Z a∧H a=some (.lst vs)∧qb w H xs vs
 | .tup xs,v=>∃ a vs,v=.ref a∧w.Z a∧H a=some (.tup vs)∧qb w H xs vs
 | .dct ks xs,v=>∃ a vs,v=.ref a∧w.Z a∧Rd H a (.dK (ks.zip vs))∧ks.length=xs.length∧qb w H xs vs
 | .obj C fs xs,v=>∃ a dx vs,v=.ref a∧w.Z a∧H a=some (.ins C dx (fs.zip vs))∧fs.length=xs.length∧qb w H xs vs
noncomputable def qb (w:Wd) (H:Hp):List D→List V→Prop
 | [],vs=>vs=[]
 | d::ds,vs=>∃ v r,vs=v::r∧Rep w H d v∧qb w H ds r
end
noncomputable def Fz (o o':Option HO):Prop:=o'=o∨∃ ob kvs,o=some (.dK kvs)∧o'=some (.frz ob (.dK kvs))
theorem Fz.trans {a b c:Option HO} (x:Fz a b) (y:Fz b c):Fz a c:=by
 rcases x with rfl | ⟨ob,kvs,rfl,rfl⟩
 · exact y
 · rcases y with rfl | ⟨_,_,e,_⟩
   · exact .inr ⟨ob,kvs,rfl,rfl⟩
   · cases e
theorem Fz.ne {a b:Option HO} (x:Fz a b) (h:a ≠ none):b ≠ none:=by
 rcases x with rfl | ⟨ob,kvs,rfl,rfl⟩
 · exact h
 · simp
theorem Fz.rd {H H':Hp} {a:Addr} {kvs:List (Key × V)} (x:Fz (H a) (H' a)) (h:Rd H a (.dK kvs)):Rd H' a (.dK kvs):=by
 rcases h with h | ⟨o,h⟩
 · rw[h]at x
   rcases x with x | ⟨ob,kvs',e,x⟩
   · exact .inl x
   · cases e;exact .inr ⟨ob,x⟩
 · rw[h]at x
   rcases x with x | ⟨ob,kvs',e,x⟩
   · exact .inr ⟨o,x⟩
   · cases e
structure Le (w:Wd) (H:Hp) (w':Wd) (H':Hp):Prop where
 pre:w.ρ <+: w'.ρ
 z:∀ a,w.Z a→w'.Z a
 h:∀ a,w.Z a→Fz (H a) (H' a)
theorem Le.refl (w:Wd) (H:Hp):Le w H w H:=⟨List.prefix_refl _,fun _ z=>z,fun _ _=>.inl rfl⟩
theorem Le.trans {w w1 w2:Wd} {H H1 H2:Hp} (a:Le w H w1 H1) (b:Le w1 H1 w2 H2):Le w H w2 H2 :=
 ⟨a.pre.trans b.pre,fun x z=>b.z x (a.z x z),fun x z=>(a.h x z).trans (b.h x (a.z x z))⟩
theorem Le.at_ {w w':Wd} {H H':Hp} (l:Le w H w' H') {i:Nat} {a:Addr} (h:w.ρ[i]? =some a):w'.ρ[i]? =some a:=by
 obtain ⟨r,e⟩:=l.pre
 rw[← e,List.getElem?_append_left (List.getElem?_eq_some_iff.mp h).1]
 exact h
theorem Le.lst {w w':Wd} {H H':Hp} (l:Le w H w' H') {a:Addr} {vs:List V} (z:w.Z a) (h:H a=some (.lst vs)):H' a=some (.lst vs):=by
 rcases l.h a z with e | ⟨_,_,e,_⟩
 · rw[e,h]
 · rw[h]at e;cases e
theorem Le.tup {w w':Wd} {H H':Hp} (l:Le w H w' H') {a:Addr} {vs:List V} (z:w.Z a) (h:H a=some (.tup vs)):H' a=some (.tup vs):=by
 rcases l.h a z with e | ⟨_,_,e,_⟩
 · rw[e,h]
 · rw[h]at e;cases e
theorem Le.ins {w w':Wd} {H H':Hp} (l:Le w H w' H') {a C dx:Addr} {vs:List (Str × V)} (z:w.Z a) (h:H a=some (.ins C dx vs)):H' a=some (.ins C dx vs):=by
 rcases l.h a z with e | ⟨_,_,e,_⟩
 · rw[e,h]
 · rw[h]at e;cases e
mutual
theorem Rep.mono {w w':Wd} {H H':Hp} (l:Le w H w' H'):∀ {d:D} {v:V},Rep w H d v→Rep w' H' d v
 | .non,_,h=>h
 | .bl _,_,h=>h
 | .int _,_,h=>h
 | .str _,_,h=>h
 | .ty _,_,h=>h
 | .at_ _,_,h=>h
 | .ref _,_,⟨a,e,h⟩=>⟨a,l.at_ e,h⟩
 | .lst _,_,⟨a,vs,e,z,h,r⟩=>⟨a,vs,e,l.z a z,l.lst z h,qb.mono l r⟩
 | .tup _,_,⟨a,vs,e,z,h,r⟩=>⟨a,vs,e,l.z a z,l.tup z h,qb.mono l r⟩
 | .dct _ _,_,⟨a,vs,e,z,h,n,r⟩=>⟨a,vs,e,l.z a z,(l.h a z).rd h,n,qb.mono l r⟩
 | .obj _ _ _,_,⟨a,dx,vs,e,z,h,n,r⟩=>⟨a,dx,vs,e,l.z a z,l.ins z h,n,qb.mono l r⟩
theorem qb.mono {w w':Wd} {H H':Hp} (l:Le w H w' H'):∀ {ds:List D} {vs:List V},qb w H ds vs→qb w' H' ds vs
 | [],_,h=>h
 | _::_,_,⟨v,r,e,h,t⟩=>⟨v,r,e,Rep.mono l h,qb.mono l t⟩
end
theorem qb.length {w:Wd} {H:Hp}:∀ {ds:List D} {vs:List V},qb w H ds vs→ds.length=vs.length
 | [],vs,h=>by cases (show vs=[] from h);rfl
 | _::_,_,⟨v,r,e,_,t⟩=>by rw[e,List.length_cons,List.length_cons,qb.length t]
theorem qb.get {w:Wd} {H:Hp}:∀ {ds:List D} {vs:List V} {i:Nat} {d:D},qb w H ds vs→ds[i]? =some d→∃ v,vs[i]? =some v∧Rep w H d v
 | [],_,_,_,_,e=>by simp at e
 | d'::_,_,0,d,⟨v,r,e,h,_⟩,q=>by
   subst e
   have z:d'=d:=by simpa using q
   subst z
   exact⟨v,rfl,h⟩
 | _::ds,_,i+1,d,⟨v,r,e,_,t⟩,q=>by
   subst e
   obtain ⟨u,h1,h2⟩:=qb.get (i:=i) t (by simpa using q)
   exact⟨u,by simpa using h1,h2⟩
theorem qb.get' {w:Wd} {H:Hp} {ds:List D} {vs:List V} {i:Nat} {v:V} (h:qb w H ds vs) (e:vs[i]? =some v):∃ d,ds[i]? =some d∧Rep w H d v:=by
 have hl:i < ds.length:=by rw[h.length];exact(List.getElem?_eq_some_iff.mp e).1
 obtain ⟨u,e',r⟩:=h.get (List.getElem?_eq_getElem hl)
 rw[e]at e';cases e'
 exact⟨_,List.getElem?_eq_getElem hl,r⟩
theorem qb.append {w:Wd} {H:Hp}:∀ {ds es:List D} {vs us:List V},qb w H ds vs→qb w H es us→qb w H (ds++es) (vs++us)
 | [],_,vs,_,h,k=>by cases (show vs=[] from h);exact k
 | _::_,_,_,_,⟨v,r,e,h,t⟩,k=>by subst e;exact⟨v,r++_,rfl,h,qb.append t k⟩
theorem qb.one {w:Wd} {H:Hp} {d:D} {v:V} (h:Rep w H d v):qb w H [d] [v]:=⟨v,[],rfl,h,rfl⟩
theorem qb.cons {w:Wd} {H:Hp} {d:D} {v:V} {ds:List D} {vs:List V} (h:Rep w H d v) (t:qb w H ds vs):qb w H (d::ds) (v::vs):=⟨v,vs,rfl,h,t⟩
theorem qb.set {w:Wd} {H:Hp} {d:D} {v:V} (r:Rep w H d v):∀ {ds:List D} {vs:List V} (i:Nat),qb w H ds vs→qb w H (ds.set i d) (vs.set i v)
 | [],_,_,h=>by cases (show _=[] from h);rfl
 | _::_,_,0,⟨u,s,e,h,t⟩=>by subst e;exact⟨v,s,rfl,r,t⟩
 | _::_,_,i+1,⟨u,s,e,h,t⟩=>by subst e;exact⟨u,s.set i v,rfl,h,qb.set r i t⟩
theorem qb.take {w:Wd} {H:Hp}:∀ {ds:List D} {vs:List V} (n:Nat),qb w H ds vs→qb w H (ds.take n) (vs.take n)
 | [],_,n,h=>by cases (show _=[] from h);simp [qb]
 | _::_,_,0,_=>by simp [qb]
 | _::_,_,n+1,⟨u,s,e,h,t⟩=>by subst e;exact⟨u,s.take n,rfl,h,qb.take n t⟩
theorem qb.drop {w:Wd} {H:Hp}:∀ {ds:List D} {vs:List V} (n:Nat),qb w H ds vs→qb w H (ds.drop n) (vs.drop n)
 | [],_,n,h=>by cases (show _=[] from h);simp [qb]
 | _::_,_,0,h=>h
 | _::_,_,n+1,⟨u,s,e,h,t⟩=>by subst e;exact qb.drop n t
inductive Cell where
 | gone | lst (xs:List D) | dct (ks:List Key) (xs:List D) | obj (C:Addr) (fs:List Str) (xs:List D)
noncomputable abbrev Sto:=List Cell
noncomputable def qe5 (w:Wd) (H:Hp) (a:Addr):Cell→Prop
 | .gone=>True
 | .lst xs=>¬ w.Z a∧∃ vs,H a=some (.lst vs)∧qb w H xs vs
 | .dct ks xs=>¬ w.Z a∧∃ vs,H a=some (.dK (ks.zip vs))∧ks.length=xs.length∧qb w H xs vs
 | .obj C fs xs=>¬ w.Z a∧∃ dx vs,H a=some (.ins C dx (fs.zip vs))∧fs.length=xs.length∧qb w H xs vs
structure qf (w:Wd) (H:Hp) (S:Sto):Prop where
 zin:∀ a,w.Z a→H a ≠ none
 len:w.ρ.length=S.length
 nd:w.ρ.Nodup
 rin:∀ a,a ∈ w.ρ→H a ≠ none
 cell:∀ (l:Nat) (a:Addr) (c:Cell),w.ρ[l]? =some a→S[l]? =some c→qe5 w H a c
theorem qe5.mono {w w':Wd} {H H':Hp} {a:Addr} {c:Cell} (l:Le w H w' H') (e:H' a=H a) (z:¬ w.Z a→¬ w'.Z a) (h:qe5 w H a c):qe5 w' H' a c:=by
 cases c with
 | gone=>trivial
 | lst xs=>obtain ⟨n,vs,q,r⟩:=h;exact⟨z n,vs,e.trans q,r.mono l⟩
 | dct ks xs=>obtain ⟨n,vs,q,m,r⟩:=h;exact⟨z n,vs,e.trans q,m,r.mono l⟩
 | obj C fs xs=>obtain ⟨n,dx,vs,q,m,r⟩:=h;exact⟨z n,dx,vs,e.trans q,m,r.mono l⟩
noncomputable def Wd.fix (w:Wd) (p:Addr):Wd:=⟨w.ρ,fun a=>a=p∨w.Z a⟩
theorem qbd {w:Wd} {H:Hp} {S:Sto} {p:Addr} {o:HO} (h:qf w H S) (hp:H p=none):Le w H (w.fix p) (upd H p o) :=
 ⟨List.prefix_refl _,fun _ z=>.inr z,fun a z=>.inl (qc fun e=>h.zin a z (by rw[e];exact hp))⟩
theorem qby {w:Wd} {H:Hp} {S:Sto} {p:Addr} {o:HO} (h:qf w H S) (hp:H p=none):qf (w.fix p) (upd H p o) S:=by
 refine⟨fun a z=> ?_,h.len,h.nd,fun a m=> ?_,fun l a c e q=> ?_⟩
 · rcases z with rfl | z
   · rw[qg];simp
   · rw[qc fun e=>h.zin a z (by rw[e];exact hp)];exact h.zin a z
 · rw[qc fun e=>h.rin a m (by rw[e];exact hp)];exact h.rin a m
 · have ne:a ≠ p:=fun z=>h.rin a (List.mem_of_getElem? e) (by rw[z];exact hp)
   exact(h.cell l a c e q).mono (qbd h hp) (qc ne) fun n z=>z.elim ne n
noncomputable def Wd.more (w:Wd) (p:Addr):Wd:=⟨w.ρ++[p],w.Z⟩
theorem qeo {w:Wd} {H:Hp} {S:Sto} {p:Addr} {o:HO} (h:qf w H S) (hp:H p=none):Le w H (w.more p) (upd H p o) :=
 ⟨List.prefix_append _ _,fun _ z=>z,fun a z=>.inl (qc fun e=>h.zin a z (by rw[e];exact hp))⟩
theorem qiv {w:Wd} {H:Hp} {S:Sto} {p:Addr} {o:HO} {c:Cell} (h:qf w H S) (hp:H p=none) (hc:qe5 (w.more p) (upd H p o) p c):qf (w.more p) (upd H p o) (S++[c]):=by
 have nm:p ∉ w.ρ:=fun m=>h.rin p m hp
 refine⟨fun a z=> ?_,by simp [Wd.more,h.len],?_,fun a m=> ?_,fun l a c' e q=> ?_⟩
 · rw[qc fun e=>h.zin a z (by rw[e];exact hp)];exact h.zin a z
 · show (w.ρ++[p]).Nodup
   rw[List.nodup_append]
   exact⟨h.nd,by simp,fun a ha b hb=>by rw[List.mem_singleton.mp hb];rintro rfl;exact nm ha⟩
 · rcases List.mem_append.mp m with m | m
   · rw[qc fun e=>h.rin a m (by rw[e];exact hp)];exact h.rin a m
   · rw[List.mem_singleton.mp m,qg];simp
 · by_cases hl:l < S.length
   · rw[List.getElem?_append_left hl]at q
     have e':w.ρ[l]? =some a:=by
       have:(w.ρ++[p])[l]? =some a:=e
       rwa [List.getElem?_append_left (by rw[h.len];exact hl)]at this
     have ne:a ≠ p:=fun z=>h.rin a (List.mem_of_getElem? e') (by rw[z];exact hp)
     exact(h.cell l a c' e' q).mono (qeo h hp) (qc ne) id
   · have hl2:l=S.length:=by
       have:=(List.getElem?_eq_some_iff.mp q).1
       rw[List.length_append]at this
       simp at this
       omega
     subst hl2
     have:(w.ρ++[p])[S.length]? =some a:=e
     rw[← h.len,List.getElem?_append_right (Nat.le_refl _)]at this
     have:p=a:=by simpa using this
     subst this
     have:(S++[c])[S.length]? =some c':=q
     rw[List.getElem?_append_right (Nat.le_refl _)]at this
     have:c=c':=by simpa using this
     subst this
     exact hc
theorem qaz {w:Wd} {H:Hp} {a:Addr} {o:HO} (z:¬ w.Z a):Le w H w (upd H a o):=⟨List.prefix_refl _,fun _ z=>z,fun b zb=>.inl (qc fun e=>z (by rw[← e];exact zb))⟩
theorem qdv {w:Wd} {H:Hp} {S:Sto} {l:Nat} {a:Addr} {o:HO} {c:Cell} (h:qf w H S) (e:w.ρ[l]? =some a) (z:¬ w.Z a) (hc:qe5 w (upd H a o) a c):qf w (upd H a o) (S.set l c):=by
 refine⟨fun b zb=> ?_,by simp [h.len],h.nd,fun b m=> ?_,fun j b c' ej q=> ?_⟩
 · rw[qc fun e=>z (by rw[← e];exact zb)];exact h.zin b zb
 · by_cases hb:b=a
   · rw[hb,qg];simp
   · rw[qc hb];exact h.rin b m
 · by_cases hj:j=l
   · subst hj
     rw[e]at ej;cases ej
     rw[List.getElem?_set]at q
     simp only [if_true]at q
     split at q
     · cases q;exact hc
     · cases q
   · rw[List.getElem?_set_ne (Ne.symm hj)]at q
     have ne:b ≠ a:=fun hb=>hj (by subst hb;exact(qiu h.nd e ej).symm)
     exact(h.cell j b c' ej q).mono (qaz z) (qc ne) id
theorem qbz (w:Wd) (H:Hp) (a:Addr):Le w H (w.fix a) H:=⟨List.prefix_refl _,fun _ z=>.inr z,fun _ _=>.inl rfl⟩
theorem qdw {w:Wd} {H:Hp} {S:Sto} {l:Nat} {a:Addr} (h:qf w H S) (e:w.ρ[l]? =some a):qf (w.fix a) H (S.set l .gone):=by
 refine⟨fun b z=> ?_,by simp [Wd.fix,h.len],h.nd,h.rin,fun j b c ej q=> ?_⟩
 · rcases z with rfl | z
   · exact h.rin b (List.mem_of_getElem? e)
   · exact h.zin b z
 · by_cases hj:j=l
   · subst hj
     rw[List.getElem?_set]at q
     simp only [if_true]at q
     split at q
     · cases q;trivial
     · cases q
   · rw[List.getElem?_set_ne (Ne.symm hj)]at q
     have ne:b ≠ a:=fun hb=>hj (by subst hb;exact(qiu h.nd e ej).symm)
     exact(h.cell j b c ej q).mono (qbz w H a) rfl fun n z=>z.elim ne n
structure Exn where
 C:Addr
 fs:List Str
 xs:List D
inductive Out (α:Type) where
 | ok (a:α) (S:Sto) | err (x:Exn) (S:Sto) | no
noncomputable abbrev M (α:Type):=Sto→Out α
noncomputable def M.pure {α:Type} (a:α):M α:=fun S=>.ok a S
noncomputable def M.bind {α β:Type} (m:M α) (k:α→M β):M β:=fun S=>match m S with
 | .ok a S'=>k a S'
 | .err x S'=>.err x S'
 | .no=>.no
noncomputable def M.fail {α:Type}:M α:=fun _=>.no
noncomputable abbrev XW:=Exn→Wd→Hp→Prop
noncomputable def Wp {α:Type} (E:XW) (w:Wd) (H:Hp) (r:Out α) (P:α→Sto→Wd→Hp→Prop):Prop:=match r with
 | .ok a S=>∀ w' H',Le w H w' H'→qf w' H' S→P a S w' H'
 | .err x S=>∀ w' H',Le w H w' H'→qf w' H' S→E x w' H'
 | .no=>False
theorem Wp.later {α:Type} {E:XW} {w w1:Wd} {H H1:Hp} {r:Out α} {P:α→Sto→Wd→Hp→Prop} (h:Wp E w H r P) (l:Le w H w1 H1):Wp E w1 H1 r P:=by
 cases r with
 | ok a S=>exact fun w' H' l'=>h w' H' (l.trans l')
 | err x S=>exact fun w' H' l'=>h w' H' (l.trans l')
 | no=>exact h
theorem Wp.mono {α:Type} {E:XW} {w:Wd} {H:Hp} {r:Out α} {P P':α→Sto→Wd→Hp→Prop} (h:Wp E w H r P) (k:∀ a S w' H',Le w H w' H'→qf w' H' S→P a S w' H'→P' a S w' H'):Wp E w H r P':=by
 cases r with
 | ok a S=>exact fun w' H' l' q=>k a S w' H' l' q (h w' H' l' q)
 | err x S=>exact h
 | no=>exact h
theorem Wp.bind {α β:Type} {E:XW} {w:Wd} {H:Hp} {m:M α} {k:α→M β} {S:Sto} {P:β→Sto→Wd→Hp→Prop} (h:Wp E w H (M.bind m k S) P) :
   Wp E w H (m S) (fun a S1 w1 H1=>Wp E w1 H1 (k a S1) P):=by
 unfold M.bind at h
 cases e:m S with
 | ok a S1=>rw[e]at h;exact fun w' H' l _=>Wp.later h l
 | err x S1=>rw[e]at h;exact h
 | no=>rw[e]at h;exact h
noncomputable abbrev Env:=List (Option D)
structure Rel (w:Wd) (H:Hp) (σ:St) (Γ:Env):Prop where
 len:Γ.length=σ.length
 at_:∀ (i:Nat) (d:D),Γ[i]? =some (some d)→∃ v,σ[i]? =some (some v)∧Rep w H d v
theorem Rel.mono {w w':Wd} {H H':Hp} {σ:St} {Γ:Env} (r:Rel w H σ Γ) (l:Le w H w' H'):Rel w' H' σ Γ:=⟨r.len,fun i d e=>let ⟨v,e',h⟩:=r.at_ i d e;⟨v,e',h.mono l⟩⟩
theorem Rel.set {w:Wd} {H:Hp} {σ:St} {Γ:Env} {i:Nat} {d:D} {v:V} (r:Rel w H σ Γ) (h:Rep w H d v):Rel w H (σ.set i (some v)) (Γ.set i (some d)):=by
 refine⟨by simp [r.len],fun j e q=> ?_⟩
 by_cases hj:j=i
 · subst hj
   rw[List.getElem?_set]at q
   simp only [if_true]at q
   split at q
   · rename_i hl
     cases q
     exact⟨v,by simp [List.getElem?_set,r.len ▸ hl],h⟩
   · cases q
 · rw[List.getElem?_set_ne (Ne.symm hj)]at q ⊢
   exact r.at_ j e q
noncomputable def tD (E:XW) (f:Env→M D):TE:=fun σ H Q=>∃ w Γ S,Rel w H σ Γ∧qf w H S∧Wp E w H (f Γ S) fun d _ w' H'=>∀ v,Rep w' H' d v→Q v H'
noncomputable def tB (E:XW) (f:Env→M Bool):TT:=fun σ H Q=>∃ w Γ S,Rel w H σ Γ∧qf w H S∧Wp E w H (f Γ S) fun b _ _ H'=>Q b H'
noncomputable def tL (E:XW) (f:Env→M (List D)):TA:=fun σ H Q=>∃ w Γ S,Rel w H σ Γ∧qf w H S∧Wp E w H (f Γ S) fun ds _ w' H'=>∀ vs,qb w' H' ds vs→Q vs H'
theorem PE.mono {X:Cx} {e:Expr} {t t':TE} (h:PE X e t) (k:∀ σ H Q,t' σ H Q→t σ H Q):PE X e t':=fun pins s σ H Q I q=>h pins s σ H Q I (k σ H Q q)
theorem PT.mono {X:Cx} {e:Expr} {t t':TT} (h:PT X e t) (k:∀ σ H Q,t' σ H Q→t σ H Q):PT X e t':=fun pins s σ H Q I q=>h pins s σ H Q I (k σ H Q q)
theorem PA.mono {X:Cx} {e:List Expr} {t t':TA} (h:PA X e t) (k:∀ σ H Q,t' σ H Q→t σ H Q):PA X e t':=fun pos pins s σ H Q I q=>h pos pins s σ H Q I (k σ H Q q)
theorem PS.mono {X:Cx} {e:Stmt} {t t':TS} (h:PS X e t) (k:∀ D σ H,t' D σ H→t D σ H):PS X e t':=fun pins s σ H D I q=>h pins s σ H D I (k D σ H q)
theorem PSs.mono {X:Cx} {e:List Stmt} {t t':TS} (h:PSs X e t) (k:∀ D σ H,t' D σ H→t D σ H):PSs X e t':=fun pins s σ H D I q=>h pins s σ H D I (k D σ H q)
theorem qe {α:Type} {E:XW} {f:Env→M D} {k:D→Env→M α} {σ:St} {H:Hp} {w:Wd} {Γ:Env} {S:Sto} {P:α→Sto→Wd→Hp→Prop} {Q:VK} (r:Rel w H σ Γ) (h:qf w H S)
   (q:Wp E w H (M.bind (f Γ) (fun d=>k d Γ) S) P)
   (hk:∀ d v S1 w1 H1,Le w H w1 H1→Rel w1 H1 σ Γ→qf w1 H1 S1→Rep w1 H1 d v→Wp E w1 H1 (k d Γ S1) P→Q v H1):tD E f σ H Q :=
 ⟨w,Γ,S,r,h,(Wp.bind q).mono fun d S1 w1 H1 l h1 q1 v rv=>hk d v S1 w1 H1 l (r.mono l) h1 rv q1⟩
end T3
namespace L2
open PySem PySem.Spec PyProof.Rows
section
variable {X:Cx}
noncomputable def q15 (K:PySem.W.Frag):List V→Hp→VK→Prop:=fun vs H Q=>∃ (l:Addr) (ns:List Int),vs=[.ref l]∧SqL K H l (ns.map V.int)∧0 < ns.length∧∀ M,M ∈ ns→(∀ a,a ∈ ns→M≤a)→Q (.int M) H
theorem qla:∀ {ns:List Int} {its:List Value},Vals (ns.map V.int) its→IntsAre its ns
 | [],its,h=>by cases h;exact .nil
 | n ::ns,its,h=>by
   cases h with
   | cons r t =>
     obtain ⟨k,rfl⟩:=r
     exact .cons n k (qla t)
theorem qpi (hc:X.calm=true):qx X (.builtin "min") (q15 X.K):=by
 intro pins s σ H xs us Q I r h
 obtain ⟨l,ns,rfl,hq,hne,q⟩:=h
 obtain ⟨u,rfl,ru⟩:=r.one
 cases ru
 obtain ⟨its,rv,p,hz⟩:=I.list hq
 have hi:=qla rv
 obtain ⟨ys,e⟩:=hi.allInts.items
 have hns:ns=ys.toList.map (·.1):=by rw[← hi.numsOf,← nums_intItems,← e]
 have hsz:0 < ys.size:=by
   have h3:=hne;rw[hns,List.length_map,Array.length_toList]at h3;exact h3
 have hl:=p.isList
 rw[e]at hl
 refine min_intList (I.ok.hd hc) hl hsz fun v h' tk hv hk=> ?_
 obtain ⟨t,rfl⟩:=intItems_at hv
 obtain ⟨h1,h2⟩:=argBest_lt (numAt ys) (ys.size - 1)
 refine⟨.int _,H,I.kept hk,⟨_,rfl⟩,q _ ?_ fun a ha=> ?_⟩
 · rw[hns,numAt_eq];exact getD_mem (by rw[List.length_map,Array.length_toList];omega)
 · rw[hns]at ha
   obtain ⟨j,hj,rfl⟩:=mem_getD ha
   rw[List.length_map,Array.length_toList]at hj
   rw[← numAt_eq];exact h2 j (by omega)
end
section
variable {prog:Program} {w:World} {A:Around} {E:Value→Shared→Prop}
theorem q16 {it l:Addr} {vs:Array Value} (hne:l ≠ it) (n:Nat):∀ (i:Nat) (s:Shared) (Q:List Value→Shared→Prop),s.heap.IsListIter it l i→s.heap.IsList l vs→i+n≤vs.size →
   (∀ h',h'.IsListIter it l (i+n)→Heap.SameBut it s.heap h'→Q ((vs.toList.drop i).take n) { s with heap:=h' })→wpAny (model prog w) A (draw (.ref it) n) Q E s:=by
 induction n with
 | zero =>
   intro i s Q hit _ _ q
   have q0:=q s.heap hit (Heap.SameBut.refl ..)
   rw[List.take_zero]at q0
   exact wpAny_pure q0
 | succ n ih =>
   intro i s Q hit ht hle q
   have hlt:i < vs.size:=by omega
   have e:(vs.toList.drop i).take (n+1)=vs[i]::(vs.toList.drop (i+1)).take n:=by
     rw[show vs.toList.drop i=vs[i]::vs.toList.drop (i+1)by simp [List.drop_eq_getElem_cons,hlt],List.take_succ_cons]
   unfold draw
   refine wpAny_bind (wpAny_pyNext_list_item hit ht (x:=vs[i]) (by simp [hlt]) fun h1 hit1 hs1=>wpAny_bind (wpAny_holding (ih (i+1) _ _ hit1 (ht.extBut hs1.extBut hne) (by omega) fun h2 hit2 hs2=>wpAny_pure ?_)))
   have q':=q h2 (by rw[show i+(n+1)=i+1+n by omega];exact hit2) (hs1.trans hs2)
   rwa [e]at q'
theorem qt5 {s:Shared} {l:Addr} {vs:Array Value} {Q:List Value→Shared→Prop} (hh:A.handled=none) (ht:s.heap.IsList l vs)
   (q:∀ h',Heap.ExtBut s.heap.objs.size s.heap h'→Q vs.toList { s with heap:=h' }):wpAny (model prog w) A (unpackItems (.ref l) vs.size none) Q E s:=by
 have hlt:l ≠ s.heap.objs.size:=by obtain ⟨o,ho,_⟩:=ht;exact Nat.ne_of_lt (Heap.lt_size ho)
 have e:(vs.toList.drop 0).take vs.size=vs.toList:=by rw[List.drop_zero,List.take_of_length_le (by simp)]
 unfold unpackItems notIterableAtAll
 refine wpAny_bind (wpAny_bind (wpAny_specialOf ht.typeIs slot_list_iter.lookup (wpAny_pure ?_)))
 simp only [Bool.false_eq_true,if_false]
 refine wpAny_bind (wpAny_holding (wpAny_pyIter_list ht (wpAny_bind (wpAny_holding (q16 hlt vs.size 0 _ _ ⟨_,Heap.get?_push_size _ rfl,rfl,rfl⟩ (ht.push _) (by omega) fun h1 hit1 hs1=> ?_)))))
 rw[e,if_neg (by simp)]
 refine wpAny_bind (wpAny_holding (wpAny_pyNext_list_end hh hit1 ((ht.push _).extBut hs1.extBut hlt) (by simp) fun h2 he2=> ?_))
 simp only [Option.isSome_none,Bool.false_eq_true,if_false]
 exact wpAny_pure (q h2 fun b o hb eb=>he2 b o hb (hs1.extBut b o hb (Heap.get?_push_of_some _ eb)))
end
section
variable {X:Cx}
noncomputable def q17 (K:PySem.W.Frag) (n:Nat) (t:TGs):TG:=fun v σ H Q=>∃ a xs,v=.ref a∧SqL K H a xs∧xs.length=n∧t xs σ H Q
theorem qt6 {es:List Expr} {k:Nat} {t:TGs} {n:Nat} {pos:Pos} (hc:X.calm=true) (h:PGs X es t)
   (hn:(assignEach es X.env).length=n:=by rfl) (hst:(assignEach es X.env).findIdx? (·.1)=none:=by rfl):PG X (.Tuple es k pos) (q17 X.K n t):=by
 intro pins s σ H v u Q I r hw
 obtain ⟨a,xs,e1,hq,hl,hw⟩:=hw
 subst e1
 cases r
 obtain ⟨its,rv,p,hz⟩:=I.list hq
 have hlen:=rv.length
 rw[arm_assign_Tuple]
 refine wpAny_bind (wpAny_standAt ?_)
 unfold unpack
 rw[show (assignEach es X.env).length=its.toArray.size by simp [hn,← hl,rv.length],hst]
 refine wpAny_bind (wpAny_holding (qt5 (I.ok.hd hc) p.isList fun h' hx=> ?_))
 have I1:Inv X pins σ H { s with heap:=h' }:=I.kept (t':=s.toks) fun b o e=>hx b o (Nat.ne_of_lt (Heap.lt_size e)) e
 exact h pins _ σ H xs _ Q I1 (by simpa using rv) hw
noncomputable def qn2 (i j:Int):Prop:=(-2582249878086908589655919172003011874329705792829223512830659356540647622016841194629645353280137831435903171972747493376 < i∧i < 2582249878086908589655919172003011874329705792829223512830659356540647622016841194629645353280137831435903171972747493376)∧ -2582249878086908589655919172003011874329705792829223512830659356540647622016841194629645353280137831435903171972747493376 < j∧j < 2582249878086908589655919172003011874329705792829223512830659356540647622016841194629645353280137831435903171972747493376
theorem qlb {k:Int} (h1: -2582249878086908589655919172003011874329705792829223512830659356540647622016841194629645353280137831435903171972747493376 < k) (h2:k < 2582249878086908589655919172003011874329705792829223512830659356540647622016841194629645353280137831435903171972747493376):Builtin.Int.intBits k≤2 ^ 20:=by
 unfold Builtin.Int.intBits
 split
 · exact Nat.zero_le _
 · have hn:k.natAbs < 2582249878086908589655919172003011874329705792829223512830659356540647622016841194629645353280137831435903171972747493376:=by omega
   have hn2:k.natAbs < 2 ^ 400:=by
     have:(2:Nat) ^ 400=2582249878086908589655919172003011874329705792829223512830659356540647622016841194629645353280137831435903171972747493376:=by decide +kernel
     rw[this];exact hn
   have h0:k.natAbs ≠ 0:=by
     rename_i h
     intro z
     apply h
     have:k=0:=by omega
     rw[this];rfl
   have:=(Nat.log2_lt h0).mpr hn2
   have e:(2:Nat) ^ 20=1048576:=by decide
   omega
theorem qt7:OpR X (binaryOp .Mult) (rI qn2 fun i j=>.int (i * j)):=opI fun _ _ _ _ _ _ _ hc q=>mul_int q (.of_bits (qlb hc.1.1 hc.1.2) (qlb hc.2.1 hc.2.2))
end
end L2
namespace T3
open PySem PySem.Spec PyProof.Rows L2
noncomputable def D.flat:D→Option V
 | .non=>some .non
 | .bl b=>some (.bl b)
 | .int i=>some (.int i)
 | .str x=>some (.str x)
 | _=>none
mutual
noncomputable def eqD:D→D→Option Bool
 | .lst xs,y=>match y with
   | .lst ys=>if xs.length=ys.length then qba xs ys else some false
   | _=>none
 | .tup xs,y=>match y with
   | .tup ys=>if xs.length=ys.length then qba xs ys else none
   | _=>none
 | .non,y=>y.flat.map (eqV .non)
 | .bl b,y=>y.flat.map (eqV (.bl b))
 | .int i,y=>y.flat.map (eqV (.int i))
 | .str x,y=>y.flat.map (eqV (.str x))
 | _,_=>none
noncomputable def qba:List D→List D→Option Bool
 | [],ys=>match ys with
   | []=>some true
   | _=>none
 | x ::xs,ys=>match ys with
   | y::ys=>match eqD x y,qba xs ys with
     | some a,some b=>some (a && b)
     | _,_=>none
   | []=>none
end
mutual
noncomputable def D.dep:D→Nat
 | .lst xs=>qm0 xs+1
 | .tup xs=>qm0 xs+1
 | _=>0
noncomputable def qm0:List D→Nat
 | []=>0
 | d::ds=>max d.dep (qm0 ds)
end
theorem qdx:∀ {ds:List D} {i:Nat} {d:D},ds[i]? =some d→d.dep≤qm0 ds
 | [],_,_,e=>by simp at e
 | x::xs,0,d,e=>by
   have:x=d:=by simpa using e
   subst this
   exact Nat.le_max_left _ _
 | x::xs,i+1,d,e=>Nat.le_trans (qdx (ds:=xs) (i:=i) (by simpa using e)) (Nat.le_max_right _ _)
theorem qn3:∀ {xs ys:List D} {b:Bool} {j:Nat} {x y:D},qba xs ys=some b→xs[j]? =some x→ys[j]? =some y→∃ c,eqD x y=some c
 | [],ys,_,j,x,y,_,h1,_=>by simp at h1
 | _::_,[],_,j,x,y,_,_,h2=>by simp at h2
 | a ::xs,c::ys,b,j,x,y,h,h1,h2=>by
   rw[qba]at h
   cases e1:eqD a c with
   | none=>rw[e1]at h;simp at h
   | some p =>
     cases e2:qba xs ys with
     | none=>rw[e1,e2]at h;simp at h
     | some q =>
       cases j with
       | zero =>
         simp at h1 h2
         subst h1 h2
         exact⟨p,e1⟩
       | succ j=>exact qn3 e2 (by simpa using h1) (by simpa using h2)
noncomputable def qcr (xs ys:List D) (j:Nat):Bool:=(eqD (xs.getD j .non) (ys.getD j .non)).getD false
theorem qb0:∀ {xs ys:List D} {b:Bool},qba xs ys=some b→(List.range xs.length).all (qcr xs ys)=b
 | [],[],b,h=>by simp [qba]at h;simp [h]
 | [],_::_,_,h=>by simp [qba]at h
 | _::_,[],_,h=>by simp [qba]at h
 | x ::xs,y::ys,b,h=>by
   rw[qba]at h
   cases e1:eqD x y with
   | none=>rw[e1]at h;simp at h
   | some p =>
     cases e2:qba xs ys with
     | none=>rw[e1,e2]at h;simp at h
     | some q =>
       rw[e1,e2]at h
       have h:(p && q)=b:=by simpa using h
       rw[List.length_cons,List.range_succ_eq_map,List.all_cons,List.all_map]
       have e3:(qcr (x::xs) (y::ys) ∘ Nat.succ)=qcr xs ys:=rfl
       rw[e3,qb0 e2,← h]
       have:qcr (x::xs) (y::ys) 0=p:=by show (eqD x y).getD false=p;rw[e1];rfl
       rw[this]
theorem qgy {w:Wd} {H:Hp} {d:D} {v x:V} (h:Rep w H d v) (f:d.flat=some x):v=x∧qip v=true:=by
 cases d <;> simp only [D.flat]at f <;> cases f <;> (simp only [Rep]at h;subst h;exact⟨rfl,rfl⟩)
section
variable {X:Cx} {pins:List (Addr × Obj)} {σ:St} {H:Hp} {s:Shared}
theorem qa4 {w:Wd} {A:Around} {d e:D} {x y z:V} {v u:Value} {b:Bool} (hz:d.flat=some z) (q:e.flat.map (eqV z)=some b) (hx:Rep w H d x) (hy:Rep w H e y) (rx:RelV x v) (ry:RelV y u):SeqAt.EqAt A s v u b:=by
 obtain ⟨rfl,f1⟩:=qgy hx hz
 cases he:e.flat with
 | none=>rw[he]at q;simp at q
 | some z' =>
   rw[he]at q
   obtain ⟨rfl,f2⟩:=qgy hy he
   have:eqV x y=b:=by simpa using q
   subst this
   exact qxv rx ry f1 f2
theorem qdc {w:Wd} {xs ys:List D} {vs ws:List V} {ia ib:List Value} {b:Bool} (hvs:qb w H xs vs) (hws:qb w H ys ws) (ra:Vals vs ia) (rb:Vals ws ib) (hb:qba xs ys=some b) {j:Nat} (h1:j < ia.length) (h2:j < ib.length) :
   ∃ x y v u,xs[j]? =some x∧eqD x y=some (qcr xs ys j)∧Rep w H x v∧Rep w H y u∧RelV v ia[j]∧RelV u ib[j]:=by
 have la:=ra.length;have lb:=rb.length
 have l1:=hvs.length;have l2:=hws.length
 have hx:j < xs.length:=by omega
 have hy:j < ys.length:=by omega
 obtain ⟨v1,e1,q1⟩:=hvs.get (List.getElem?_eq_getElem hx)
 obtain ⟨v2,e2,q2⟩:=hws.get (List.getElem?_eq_getElem hy)
 obtain ⟨u1,f1,s1⟩:=ra.get e1
 obtain ⟨u2,f2,s2⟩:=rb.get e2
 obtain ⟨c,hc⟩:=qn3 hb (List.getElem?_eq_getElem hx) (List.getElem?_eq_getElem hy)
 obtain ⟨_,g1⟩:=List.getElem?_eq_some_iff.mp f1
 obtain ⟨_,g2⟩:=List.getElem?_eq_some_iff.mp f2
 refine⟨xs[j],ys[j],v1,v2,List.getElem?_eq_getElem hx,?_,q1,q2,by rw[g1];exact s1,by rw[g2];exact s2⟩
 have z1:xs.getD j .non=xs[j]:=by simp [hx]
 have z2:ys.getD j .non=ys[j]:=by simp [hy]
 unfold qcr
 rw[z1,z2,hc]
 rfl
mutual
theorem Rep.uniq {w:Wd}:∀ {d e:D} {v:V} {b:Bool},Rep w H d v→Rep w H e v→eqD d e=some b→b=true
 | .non,e,v,b,h,k,q=>by
   simp only [Rep]at h;subst h
   cases e <;> simp only [Rep]at k <;> simp [eqD,D.flat,eqV]at q k <;> first | exact q.symm ▸ rfl | done
 | .bl x,e,v,b,h,k,q=>by
   simp only [Rep]at h;subst h
   cases e <;> simp only [Rep]at k <;> simp [eqD,D.flat,eqV]at q k <;> first | (subst k;simpa using q.symm) | done
 | .int x,e,v,b,h,k,q=>by
   simp only [Rep]at h;subst h
   cases e <;> simp only [Rep]at k <;> simp [eqD,D.flat,eqV]at q k <;> first | (subst k;simpa using q.symm) | done
 | .str x,e,v,b,h,k,q=>by
   simp only [Rep]at h;subst h
   cases e <;> simp only [Rep]at k <;> simp [eqD,D.flat,eqV]at q k <;> first | (subst k;simpa using q.symm) | done
 | .lst xs,e,v,b,⟨a,vs,e1,_,h1,r⟩,k,q=>by
   cases e with
   | lst ys =>
     obtain ⟨a',vs',e2,_,h2,r'⟩:=k
     rw[e1]at e2;cases e2
     rw[h1]at h2;cases h2
     rw[eqD]at q
     simp only [show xs.length=ys.length by rw[r.length,r'.length],if_true]at q
     exact qb.uniq r r' q
   | _=>simp [eqD]at q
 | .tup xs,e,v,b,⟨a,vs,e1,_,h1,r⟩,k,q=>by
   cases e with
   | tup ys =>
     obtain ⟨a',vs',e2,_,h2,r'⟩:=k
     rw[e1]at e2;cases e2
     rw[h1]at h2;cases h2
     rw[eqD]at q
     simp only [show xs.length=ys.length by rw[r.length,r'.length],if_true]at q
     exact qb.uniq r r' q
   | _=>simp [eqD]at q
 | .ty _,_,_,_,_,_,h=>by simp [eqD]at h
 | .at_ _,_,_,_,_,_,h=>by simp [eqD]at h
 | .ref _,_,_,_,_,_,h=>by simp [eqD]at h
 | .dct _ _,_,_,_,_,_,h=>by simp [eqD]at h
 | .obj _ _ _,_,_,_,_,_,h=>by simp [eqD]at h
theorem qb.uniq {w:Wd}:∀ {ds es:List D} {vs:List V} {b:Bool},qb w H ds vs→qb w H es vs→qba ds es=some b→b=true
 | [],[],_,b,_,_,h=>by simp [qba]at h;exact h.symm ▸ rfl
 | [],_::_,_,_,_,_,h=>by simp [qba]at h
 | _::_,[],_,_,_,_,h=>by simp [qba]at h
 | d ::ds,e::es,_,b,⟨v,r,e1,hd,t⟩,⟨v',r',e2,hd',t'⟩,h=>by
   rw[e1]at e2;cases e2
   rw[qba]at h
   cases e1:eqD d e with
   | none=>rw[e1]at h;simp at h
   | some p =>
     cases e2:qba ds es with
     | none=>rw[e1,e2]at h;simp at h
     | some q =>
       rw[e1,e2]at h
       have h:(p && q)=b:=by simpa using h
       rw[← h,Rep.uniq hd hd' e1,qb.uniq t t' e2]
       rfl
end
theorem qgz {w:Wd} (I:Inv X pins σ H s):∀ (n:Nat) (A:Around) (d e:D) (x y:V) (v u:Value) (b:Bool),d.dep≤n→A.units+n < cLine→eqD d e=some b→Rep w H d x→Rep w H e y→RelV x v→RelV y u→SeqAt.EqAt A s v u b:=by
 intro n
 induction n with
 | zero =>
   intro A d e x y v u b hd hu hb hx hy rx ry
   cases d with
   | lst xs=>simp [D.dep]at hd
   | tup xs=>simp [D.dep]at hd
   | non=>exact qa4 (d:=.non) rfl (by simpa [eqD]using hb) hx hy rx ry
   | bl b=>exact qa4 (d:=.bl b) rfl (by simpa [eqD]using hb) hx hy rx ry
   | int i=>exact qa4 (d:=.int i) rfl (by simpa [eqD]using hb) hx hy rx ry
   | str z=>exact qa4 (d:=.str z) rfl (by simpa [eqD]using hb) hx hy rx ry
   | _=>simp [eqD]at hb
 | succ n ih =>
   intro A d e x y v u b hd hu hb hx hy rx ry
   cases d with
   | non=>exact qa4 (d:=.non) rfl (by simpa [eqD]using hb) hx hy rx ry
   | bl b=>exact qa4 (d:=.bl b) rfl (by simpa [eqD]using hb) hx hy rx ry
   | int i=>exact qa4 (d:=.int i) rfl (by simpa [eqD]using hb) hx hy rx ry
   | str z=>exact qa4 (d:=.str z) rfl (by simpa [eqD]using hb) hx hy rx ry
   | lst xs =>
     cases e with
     | lst ys =>
       have hx0:=hx;have hy0:=hy;have hb0:=hb
       obtain ⟨a,vs,rfl,_,ha,hvs⟩:=hx
       obtain ⟨c,ws,rfl,_,hc,hws⟩:=hy
       cases (show v=Value.ref a from rx);cases (show u=Value.ref c from ry)
       by_cases hab:a=c
       · subst hab
         rw[Rep.uniq hx0 hy0 hb0]
         exact .same _
       obtain ⟨ia,ra,pa,_⟩:=I.list (SqL.of ha)
       obtain ⟨ib,rb,pb,_⟩:=I.list (SqL.of hc)
       have la:=ra.length;have lb:=rb.length
       have l1:=hvs.length;have l2:=hws.length
       rw[eqD]at hb
       by_cases hxy:xs.length=ys.length
       case neg =>
         have:=SeqAt.RcAt.lists_lengths (A:=A) (s:=s) pa.isList pb.isList (by simp;omega) (by omega)
         simp only [hxy,if_false]at hb
         cases hb
         exact .of_refs hab this
       simp only [hxy,if_true]at hb
       have:=SeqAt.RcAt.lists (A:=A) (e:=qcr xs ys) pa.isList pb.isList (by simp;omega) (by omega) (fun j h1 h2=> ?_)
       · rw[show ia.toArray.size=xs.length by simp;omega,qb0 hb]at this
         exact .of_refs hab this
       · simp only [List.size_toArray]at h1 h2
         obtain ⟨x1,y1,v1,w1,e1,q0,q1,q2,s1,s2⟩:=qdc hvs hws ra rb hb h1 h2
         have hdj:=qdx e1
         simp only [D.dep]at hd
         exact ih A.in1 _ _ _ _ _ _ _ (by omega) (by show A.units+1+n < cLine;omega) q0 q1 q2 s1 s2
     | _=>simp [eqD]at hb
   | tup xs =>
     cases e with
     | tup ys =>
       have hx0:=hx;have hy0:=hy;have hb0:=hb
       obtain ⟨a,vs,rfl,_,ha,hvs⟩:=hx
       obtain ⟨c,ws,rfl,_,hc,hws⟩:=hy
       cases (show v=Value.ref a from rx);cases (show u=Value.ref c from ry)
       by_cases hab:a=c
       · subst hab
         rw[Rep.uniq hx0 hy0 hb0]
         exact .same _
       obtain ⟨ia,ra,pa,_⟩:=I.tuple (SqT.of ha)
       obtain ⟨ib,rb,pb,_⟩:=I.tuple (SqT.of hc)
       have la:=ra.length;have lb:=rb.length
       have l1:=hvs.length;have l2:=hws.length
       rw[eqD]at hb
       by_cases hxy:xs.length=ys.length
       case neg=>simp [hxy]at hb
       simp only [hxy,if_true]at hb
       have:=SeqAt.RcAt.tuples (A:=A) (e:=qcr xs ys) (show s.heap.IsTuple a ia.toArray from pa) (show s.heap.IsTuple c ib.toArray from pb) (by omega) (fun j h1 h2=> ?_)
       · rw[show ib.toArray.size=ia.toArray.size by simp;omega,Nat.min_self,show ia.toArray.size=xs.length by simp;omega,qb0 hb]at this
         simp only [beq_self_eq_true,Bool.and_true]at this
         exact .of_refs hab this
       · simp only [List.size_toArray]at h1 h2
         obtain ⟨x1,y1,v1,w1,e1,q0,q1,q2,s1,s2⟩:=qdc hvs hws ra rb hb h1 h2
         have hdj:=qdx e1
         simp only [D.dep]at hd
         exact ih A.in1 _ _ _ _ _ _ _ (by omega) (by show A.units+1+n < cLine;omega) q0 q1 q2 s1 s2
     | _=>simp [eqD]at hb
   | _=>simp [eqD]at hb
end
noncomputable def look (d:D) (S:Sto):D:=match d with
 | .ref l=>match S[l]? with
   | some (.lst xs)=>.lst xs
   | some (.dct ks xs)=>.dct ks xs
   | some (.obj C fs xs)=>.obj C fs xs
   | _=>.ref l
 | d=>d
noncomputable abbrev PV (Q:VK):D→Sto→Wd→Hp→Prop:=fun d _ w' H'=>∀ v,Rep w' H' d v→Q v H'
section
variable {E:XW} {w:Wd} {H:Hp} {S:Sto} {d:D} {v:V} {Q:VK}
theorem qk {xs:List D} (h:qf w H S) (r:Rep w H d v) (e:look d S=.lst xs):∃ a vs,v=.ref a∧H a=some (.lst vs)∧qb w H xs vs:=by
 cases d with
 | lst ys=>cases e;obtain ⟨a,vs,e1,_,e2,e3⟩:=r;exact⟨a,vs,e1,e2,e3⟩
 | ref l =>
   unfold look at e
   dsimp only at e
   cases q:S[l]? with
   | none=>rw[q]at e;cases e
   | some c =>
     rw[q]at e
     obtain ⟨a,e1,e2⟩:=r
     have k:=h.cell l a c e1 q
     cases c with
     | lst ys=>cases e;obtain ⟨_,vs,k1,k2⟩:=k;exact⟨a,vs,e2,k1,k2⟩
     | _=>cases e
 | _=>cases e
theorem qaa {xs:List D} (h:qf w H S) (r:Rep w H d v) (e:look d S=.tup xs):∃ a vs,v=.ref a∧H a=some (.tup vs)∧qb w H xs vs:=by
 cases d with
 | tup ys=>cases e;obtain ⟨a,vs,e1,_,e2,e3⟩:=r;exact⟨a,vs,e1,e2,e3⟩
 | ref l =>
   unfold look at e
   dsimp only at e
   cases q:S[l]? with
   | none=>rw[q]at e;cases e
   | some c=>rw[q]at e;cases c <;> cases e
 | _=>cases e
theorem qb1 {ks:List Key} {xs:List D} (h:qf w H S) (r:Rep w H d v) (e:look d S=.dct ks xs):∃ a vs,v=.ref a∧Rd H a (.dK (ks.zip vs))∧ks.length=xs.length∧qb w H xs vs:=by
 cases d with
 | dct js ys=>cases e;obtain ⟨a,vs,e1,_,e2,e3⟩:=r;exact⟨a,vs,e1,e2,e3⟩
 | ref l =>
   unfold look at e
   dsimp only at e
   cases q:S[l]? with
   | none=>rw[q]at e;cases e
   | some c =>
     rw[q]at e
     obtain ⟨a,e1,e2⟩:=r
     have k:=h.cell l a c e1 q
     cases c with
     | dct js ys=>cases e;obtain ⟨_,vs,k1,k2⟩:=k;exact⟨a,vs,e2,.inl k1,k2⟩
     | _=>cases e
 | _=>cases e
theorem qa5 {z:V} (r:Rep w H d v) (e:(look d S).flat=some z):v=z∧qip v=true:=by
 cases d with
 | ref l =>
   unfold look at e
   dsimp only at e
   cases q:S[l]? with
   | none=>rw[q]at e;cases e
   | some c=>rw[q]at e;cases c <;> cases e
 | _=>exact qgy r e
theorem qp {i:Int} (r:Rep w H d v) (e:look d S=.int i):v=.int i:=(qa5 (S:=S) r (by rw[e];rfl)).1
theorem qa8 {i:Str} (r:Rep w H d v) (e:look d S=.str i):v=.str i:=(qa5 (S:=S) r (by rw[e];rfl)).1
theorem qn4 {i:Bool} (r:Rep w H d v) (e:look d S=.bl i):v=.bl i:=(qa5 (S:=S) r (by rw[e];rfl)).1
theorem qep (r:Rep w H d v) (e:look d S=.non):v=.non:=(qa5 (S:=S) r (by rw[e];rfl)).1
end
noncomputable def D.cell:D→Cell
 | .lst xs=>.lst xs
 | .dct ks xs=>.dct ks xs
 | .obj C fs xs=>.obj C fs xs
 | _=>.gone
noncomputable def alloc (new:Bool) (d:D):M D:=fun S=>if new then .ok (.ref S.length) (S++[d.cell])else .ok d S
section
variable {E:XW} {w:Wd} {H:Hp} {S:Sto} {Q:VK} {new:Bool} {p:Addr}
theorem qf.noZ (h:qf w H S) (hp:H p=none):¬ w.Z p:=fun z=>h.zin p z hp
theorem qae {xs:List D} {vs:List V} (h:qf w H S) (r:qb w H xs vs) (q:Wp E w H (alloc new (.lst xs) S) (PV Q)) (hp:H p=none):Q (.ref p) (upd H p (.lst vs)):=by
 cases new with
 | false=>exact q _ _ (qbd h hp) (qby h hp) _ ⟨p,vs,rfl,.inl rfl,qg,r.mono (qbd h hp)⟩
 | true=>exact q _ _ (qeo h hp) (qiv h hp ⟨h.noZ hp,vs,qg,r.mono (qeo h hp)⟩) _ ⟨p,by simp [Wd.more,← h.len],rfl⟩
theorem qiw {ks:List Key} {xs:List D} {vs:List V} (h:qf w H S) (hl:ks.length=xs.length) (r:qb w H xs vs) (q:Wp E w H (alloc new (.dct ks xs) S) (PV Q)) (hp:H p=none):Q (.ref p) (upd H p (.dK (ks.zip vs))):=by
 cases new with
 | false=>exact q _ _ (qbd h hp) (qby h hp) _ ⟨p,vs,rfl,.inl rfl,.inl qg,hl,r.mono (qbd h hp)⟩
 | true=>exact q _ _ (qeo h hp) (qiv h hp ⟨h.noZ hp,vs,qg,hl,r.mono (qeo h hp)⟩) _ ⟨p,by simp [Wd.more,← h.len],rfl⟩
theorem qgd {xs:List D} {vs:List V} (h:qf w H S) (r:qb w H xs vs) (q:Wp E w H (M.pure (.tup xs) S) (PV Q)) (hp:H p=none):Q (.ref p) (upd H p (.tup vs)) :=
 q _ _ (qbd h hp) (qby h hp) _ ⟨p,vs,rfl,.inl rfl,qg,r.mono (qbd h hp)⟩
theorem now {d:D} {v:V} (h:qf w H S) (r:Rep w H d v) (q:Wp E w H (M.pure d S) (PV Q)):Q v H:=q _ _ (Le.refl _ _) h v r
end
noncomputable def OpT (X:Cx) (F:Value→Value→Sem Value) (h:D→D→M D):Prop:=∃ r:R2,OpR X F r∧∀ (E:XW) w H S dx dy x y Q,qf w H S→Rep w H dx x→Rep w H dy y→Wp E w H (h dx dy S) (PV Q)→r x y H Q
noncomputable def sizeOk (n:Nat):Bool:=decide (n≤sizeLine)
noncomputable instance (i j:Int):Decidable (qo2 i j):=by unfold qo2;infer_instance
noncomputable instance (i j:Int):Decidable (qn2 i j):=by unfold qn2;infer_instance
noncomputable def qcs (i j:Int):Bool:=decide (qo2 i j) || decide (qn2 i j)
noncomputable instance (i j:Int):Decidable (qdm i j):=by unfold qdm;infer_instance
noncomputable instance (i j:Int):Decidable (qk0 i j):=by unfold qk0;infer_instance
noncomputable def q18 (new:Bool):D→D→M D
 | .int i,.int j=>M.pure (.int (i+j))
 | .str a,.str b=>if sizeOk (a.length+b.length)then M.pure (.str (a++b))else M.fail
 | .lst xs,.lst ys=>if sizeOk (xs.length+ys.length)then alloc new (.lst (xs++ys))else M.fail
 | .tup xs,.tup ys=>if !xs.isEmpty && sizeOk (xs.length+ys.length)then M.pure (.tup (xs++ys))else M.fail
 | _,_=>M.fail
noncomputable def qye:D→D→M D
 | .int i,.int j=>M.pure (.int (i - j))
 | _,_=>M.fail
noncomputable def q19 (new:Bool):D→D→M D
 | .int i,.int j=>if qcs i j then M.pure (.int (i * j))else M.fail
 | .lst xs,.int k=>if decide (k < 2 ^ 63) && decide (-(2 ^ 63)≤k) && sizeOk (xs.length * k.toNat)then alloc new (.lst (List.replicate k.toNat xs).flatten)else M.fail
 | _,_=>M.fail
noncomputable def q2a:D→D→M D
 | .int i,.int j=>if decide (qdm i j)then M.pure (.int (i / j))else M.fail
 | _,_=>M.fail
noncomputable def q2b:D→D→M D
 | .int i,.int j=>if decide (0 < j)then M.pure (.int (i % j))else M.fail
 | _,_=>M.fail
noncomputable def q2c:D→D→M D
 | .int i,.int j=>if decide (qk0 i j)then M.pure (.int (i ^ j.toNat))else M.fail
 | _,_=>M.fail
noncomputable def seen (f:D→D→M D) (x y:D):M D:=fun S=>f (look x S) (look y S) S
noncomputable def qjn (new:Bool) (op:Operator):D→D→M D:=match op with
 | .Add=>seen (q18 new)
 | .Sub=>seen qye
 | .Mult=>seen (q19 new)
 | .FloorDiv=>seen q2a
 | .Mod=>seen q2b
 | .Pow=>seen q2c
 | _=>fun _ _=>M.fail
section
variable {X:Cx}
theorem Wp.iteF {α:Type} {E:XW} {w:Wd} {H:Hp} {c:Bool} {m:M α} {S:Sto} {P:α→Sto→Wd→Hp→Prop} (h:Wp E w H ((if c=true then m else M.fail) S) P):c=true∧Wp E w H (m S) P:=by
 cases c with
 | true=>exact⟨rfl,h⟩
 | false=>exact False.elim h
theorem qb.rep {w:Wd} {H:Hp} {ds:List D} {vs:List V} (h:qb w H ds vs):∀ k:Nat,qb w H (List.replicate k ds).flatten (List.replicate k vs).flatten
 | 0=>rfl
 | k+1=>by rw[List.replicate_succ,List.replicate_succ,List.flatten_cons,List.flatten_cons];exact h.append (qb.rep h k)
theorem qyf {new:Bool}:OpT X (binaryOp .Add) (seen (q18 new)):=by
 refine⟨_,qxe.or (qmn.or (qxz.or qtr)),fun E w H S dx dy x y Q h rx ry q=> ?_⟩
 unfold seen at q
 cases e1:look dx S <;> rw[e1]at q <;> first | exact False.elim q | (cases e2:look dy S <;> rw[e2]at q <;> first | exact False.elim q | skip)
 case int.int i j =>
   exact .inl ⟨i,j,qp rx e1,qp ry e2,now h (d:=.int _) rfl q⟩
 case str.str i j =>
   obtain ⟨hz,q⟩:=Wp.iteF q
   exact .inr (.inl ⟨i,j,qa8 rx e1,qa8 ry e2,of_decide_eq_true hz,now h (d:=.str _) rfl q⟩)
 case lst.lst xs ys =>
   obtain ⟨hz,q⟩:=Wp.iteF q
   obtain ⟨a,vs,z1,z2,z3⟩:=qk h rx e1
   obtain ⟨b,us,y1,y2,y3⟩:=qk h ry e2
   refine .inr (.inr (.inl ⟨a,b,vs,us,z1,y1,z2,y2,?_,fun p hp=>qae h (z3.append y3) q hp⟩))
   rw[← z3.length,← y3.length];exact of_decide_eq_true hz
 case tup.tup xs ys =>
   obtain ⟨hz,q⟩:=Wp.iteF q
   rw[Bool.and_eq_true]at hz
   obtain ⟨a,vs,z1,z2,z3⟩:=qaa h rx e1
   obtain ⟨b,us,y1,y2,y3⟩:=qaa h ry e2
   refine .inr (.inr (.inr ⟨a,b,vs,us,z1,y1,SqT.of z2,SqT.of y2,?_,?_,fun e=> ?_,fun _ p hp=>qgd h (z3.append y3) q hp⟩))
   · have:=z3.length
     intro e
     rw[e]at this
     have:xs=[]:=List.length_eq_zero_iff.mp this
     rw[this]at hz
     simp at hz
   · rw[← z3.length,← y3.length];exact of_decide_eq_true hz.2
   · have hl:=y3.length
     rw[e]at hl
     have hy:ys=[]:=List.length_eq_zero_iff.mp hl
     rw[hy,List.append_nil]at q
     have:look dx S=dx:=by cases dx <;> first | rfl | (unfold look at e1;dsimp only at e1;split at e1 <;> cases e1)
     rw[this]at e1
     rw[← z1]
     exact now h (by rw[← e1];exact rx) q
theorem qyg:OpT X (binaryOp .Sub) (seen qye):=by
 refine⟨_,qxf,fun E w H S dx dy x y Q h rx ry q=> ?_⟩
 unfold seen at q
 cases e1:look dx S <;> rw[e1]at q <;> first | exact False.elim q | (cases e2:look dy S <;> rw[e2]at q <;> first | exact False.elim q | skip)
 exact⟨_,_,qp rx e1,qp ry e2,now h (d:=.int _) rfl q⟩
theorem qyh {new:Bool}:OpT X (binaryOp .Mult) (seen (q19 new)):=by
 refine⟨_,qxg.or (qt7.or qx0),fun E w H S dx dy x y Q h rx ry q=> ?_⟩
 unfold seen at q
 cases e1:look dx S <;> rw[e1]at q <;> first | exact False.elim q | (cases e2:look dy S <;> rw[e2]at q <;> first | exact False.elim q | skip)
 case int.int i j =>
   obtain ⟨hz,q⟩:=Wp.iteF q
   unfold qcs at hz
   rw[Bool.or_eq_true]at hz
   rcases hz with hz | hz
   · exact .inl ⟨i,j,qp rx e1,qp ry e2,of_decide_eq_true hz,now h (d:=.int _) rfl q⟩
   · exact .inr (.inl ⟨i,j,qp rx e1,qp ry e2,of_decide_eq_true hz,now h (d:=.int _) rfl q⟩)
 case lst.int xs k =>
   obtain ⟨hz,q⟩:=Wp.iteF q
   rw[Bool.and_eq_true,Bool.and_eq_true]at hz
   obtain ⟨a,vs,z1,z2,z3⟩:=qk h rx e1
   refine .inr (.inr ⟨a,k,vs,z1,qp ry e2,z2,of_decide_eq_true hz.1.2,of_decide_eq_true hz.1.1,?_,fun p hp=>qae h (z3.rep _) q hp⟩)
   rw[← z3.length];exact of_decide_eq_true hz.2
theorem qyi:OpT X (binaryOp .FloorDiv) (seen q2a):=by
 refine⟨_,qq2,fun E w H S dx dy x y Q h rx ry q=> ?_⟩
 unfold seen at q
 cases e1:look dx S <;> rw[e1]at q <;> first | exact False.elim q | (cases e2:look dy S <;> rw[e2]at q <;> first | exact False.elim q | skip)
 obtain ⟨hz,q⟩:=Wp.iteF q
 exact⟨_,_,qp rx e1,qp ry e2,of_decide_eq_true hz,now h (d:=.int _) rfl q⟩
theorem qyj:OpT X (binaryOp .Mod) (seen q2b):=by
 refine⟨_,qxh,fun E w H S dx dy x y Q h rx ry q=> ?_⟩
 unfold seen at q
 cases e1:look dx S <;> rw[e1]at q <;> first | exact False.elim q | (cases e2:look dy S <;> rw[e2]at q <;> first | exact False.elim q | skip)
 obtain ⟨hz,q⟩:=Wp.iteF q
 exact⟨_,_,qp rx e1,qp ry e2,of_decide_eq_true hz,now h (d:=.int _) rfl q⟩
theorem qyk:OpT X (binaryOp .Pow) (seen q2c):=by
 refine⟨_,qxi,fun E w H S dx dy x y Q h rx ry q=> ?_⟩
 unfold seen at q
 cases e1:look dx S <;> rw[e1]at q <;> first | exact False.elim q | (cases e2:look dy S <;> rw[e2]at q <;> first | exact False.elim q | skip)
 obtain ⟨hz,q⟩:=Wp.iteF q
 exact⟨_,_,qp rx e1,qp ry e2,of_decide_eq_true hz,now h (d:=.int _) rfl q⟩
theorem qg0 {F:Value→Value→Sem Value}:OpT X F (fun _ _=>M.fail):=⟨fun _ _ _ _=>False,fun _ _ _ _ _ _ _ _ _ _ _ _ h=>False.elim h,fun _ _ _ _ _ _ _ _ _ _ _ _ q=>q⟩
theorem qyl {new:Bool}:∀ op:Operator,OpT X (binaryOp op) (qjn new op)
 | .Add=>qyf
 | .Sub=>qyg
 | .Mult=>qyh
 | .FloorDiv=>qyi
 | .Mod=>qyj
 | .Pow=>qyk
 | .MatMult=>qg0
 | .Div=>qg0
 | .LShift=>qg0
 | .RShift=>qg0
 | .BitOr=>qg0
 | .BitXor=>qg0
 | .BitAnd=>qg0
end
noncomputable def qrf (p:Int→Int→Bool):D→D→M D
 | .int i,.int j=>M.pure (.bl (p i j))
 | _,_=>M.fail
noncomputable def eqM (neg:Bool) (x y:D):M D:=match eqD x y with
 | some b=>if decide (x.dep≤60) && (match x.flat,y.flat with | some a,some c=>qmk a c | _,_=>true)then M.pure (.bl (neg != b))else M.fail
 | none=>M.fail
noncomputable def D.isNon:D→Bool
 | .non=>true
 | _=>false
noncomputable def isM (neg:Bool) (x y:D):M D:=match y with
 | .non=>M.pure (.bl (neg != x.isNon))
 | _=>M.fail
noncomputable def qdy (d:D):List D→Option Bool
 | []=>some false
 | e::es=>match eqD e d,qdy d es with
   | some a,some b=>if decide (e.dep≤60)then some (a || b)else none
   | _,_=>none
noncomputable def keyOf:D→Option Key
 | .int i=>some (.inl i)
 | .str x=>some (.inr x)
 | _=>none
noncomputable def qf8 (ks:List Key) (k:Key):Bool:=ks.any fun j=>decide (j=k)
noncomputable def inM (neg:Bool) (x y:D):M D:=match y with
 | .lst es=>match qdy x es with
   | some b=>M.pure (.bl (neg != b))
   | none=>M.fail
 | .tup es=>match qdy x es with
   | some b=>M.pure (.bl (neg != b))
   | none=>M.fail
 | .dct ks _=>match keyOf x with
   | some k=>M.pure (.bl (neg != qf8 ks k))
   | none=>M.fail
 | .str j=>match x with
   | .str i=>M.pure (.bl (neg != !(Builtin.Str.occurrences j i 0 j.length 1).isEmpty))
   | _=>M.fail
 | _=>M.fail
noncomputable def qca (op:CmpOp):D→D→M D:=match op with
 | .Lt=>seen (qrf fun i j=>decide (i < j))
 | .LtE=>seen (qrf fun i j=>decide (i≤j))
 | .Gt=>seen (qrf fun i j=>decide (j < i))
 | .GtE=>seen (qrf fun i j=>decide (j≤i))
 | .Eq=>seen (eqM false)
 | .NotEq=>seen (eqM true)
 | .Is=>seen (isM false)
 | .IsNot=>seen (isM true)
 | .In=>fun x y S=>inM false x (look y S) S
 | .NotIn=>fun x y S=>inM true x (look y S) S
theorem qge {d:D}:∀ {es:List D} {b:Bool} {i:Nat} {e:D},qdy d es=some b→es[i]? =some e→∃ c,eqD e d=some c∧e.dep≤60
 | [],_,_,_,_,h=>by simp at h
 | a ::es,b,i,e,h,h1=>by
   rw[qdy]at h
   cases e1:eqD a d with
   | none=>rw[e1]at h;simp at h
   | some p =>
     cases e2:qdy d es with
     | none=>rw[e1,e2]at h;simp at h
     | some q =>
       rw[e1,e2]at h
       dsimp only at h
       by_cases hd:a.dep≤60
       · cases i with
         | zero =>
           have:a=e:=by simpa using h1
           subst this
           exact⟨p,e1,hd⟩
         | succ i=>exact qge e2 (by simpa using h1)
       · simp [hd]at h
theorem qlc {d:D}:∀ {es:List D} {b:Bool},qdy d es=some b→es.any (fun e=>(eqD e d).getD false)=b
 | [],b,h=>by simp [qdy]at h;simp [h]
 | a ::es,b,h=>by
   rw[qdy]at h
   cases e1:eqD a d with
   | none=>rw[e1]at h;simp at h
   | some p =>
     cases e2:qdy d es with
     | none=>rw[e1,e2]at h;simp at h
     | some q =>
       rw[e1,e2]at h
       dsimp only at h
       by_cases hd:a.dep≤60
       · simp only [hd,decide_true,if_true]at h
         have h:(p || q)=b:=by simpa using h
         rw[List.any_cons,e1,qlc e2,← h]
         rfl
       · simp [hd]at h
noncomputable def inE (its:List Value) (ds:List D) (d:D) (u:Value):Bool:= @decide (∃ (i:Nat) (e:D),its[i]? =some u∧ds[i]? =some e∧eqD e d=some true) (Classical.propDecidable _)
section
variable {X:Cx} {pins:List (Addr × Obj)} {σ:St} {H:Hp} {s:Shared}
mutual
theorem Rep.cong {w:Wd}:∀ {d e z:D} {v:V} {b c:Bool},Rep w H d v→Rep w H e v→eqD d z=some b→eqD e z=some c→b=c
 | .non,e,z,v,b,c,h,k,q1,q2=>by
   simp only [Rep]at h;subst h
   cases e with
   | non=>rw[q1]at q2;simpa using q2
   | _=>first | (simp [Rep]at k;done) | (simp [eqD]at q2;done)
 | .bl x,e,z,v,b,c,h,k,q1,q2=>by
   simp only [Rep]at h;subst h
   cases e with
   | bl y=>simp only [Rep]at k;cases k;rw[q1]at q2;simpa using q2
   | _=>first | (simp [Rep]at k;done) | (simp [eqD]at q2;done)
 | .int x,e,z,v,b,c,h,k,q1,q2=>by
   simp only [Rep]at h;subst h
   cases e with
   | int y=>simp only [Rep]at k;cases k;rw[q1]at q2;simpa using q2
   | _=>first | (simp [Rep]at k;done) | (simp [eqD]at q2;done)
 | .str x,e,z,v,b,c,h,k,q1,q2=>by
   simp only [Rep]at h;subst h
   cases e with
   | str y=>simp only [Rep]at k;cases k;rw[q1]at q2;simpa using q2
   | _=>first | (simp [Rep]at k;done) | (simp [eqD]at q2;done)
 | .lst xs,e,z,v,b,c,⟨a,vs,e1,_,h1,r⟩,k,q1,q2=>by
   subst e1
   cases e with
   | lst ys =>
     obtain ⟨a',vs',e2,_,h2,r'⟩:=k
     cases e2
     rw[h1]at h2;cases h2
     cases z with
     | lst zs =>
       rw[eqD]at q1 q2
       have l:xs.length=ys.length:=by rw[r.length,r'.length]
       by_cases hz:xs.length=zs.length
       · simp only [hz,← l,if_true]at q1 q2
         exact qb.cong r r' q1 q2
       · simp only [hz,← l,if_false]at q1 q2
         rw[q1]at q2;simpa using q2
     | _=>simp [eqD]at q1
   | tup ys=>obtain ⟨a',vs',e2,_,h2,r'⟩:=k;cases e2;rw[h1]at h2;cases h2
   | non=>simp [Rep]at k
   | bl _=>simp [Rep]at k
   | int _=>simp [Rep]at k
   | str _=>simp [Rep]at k
   | _=>simp [eqD]at q2
 | .tup xs,e,z,v,b,c,⟨a,vs,e1,_,h1,r⟩,k,q1,q2=>by
   subst e1
   cases e with
   | tup ys =>
     obtain ⟨a',vs',e2,_,h2,r'⟩:=k
     cases e2
     rw[h1]at h2;cases h2
     cases z with
     | tup zs =>
       rw[eqD]at q1 q2
       have l:xs.length=ys.length:=by rw[r.length,r'.length]
       by_cases hz:xs.length=zs.length
       · simp only [hz,← l,if_true]at q1 q2
         exact qb.cong r r' q1 q2
       · simp only [hz,if_false]at q1;cases q1
     | _=>simp [eqD]at q1
   | lst ys=>obtain ⟨a',vs',e2,_,h2,r'⟩:=k;cases e2;rw[h1]at h2;cases h2
   | non=>simp [Rep]at k
   | bl _=>simp [Rep]at k
   | int _=>simp [Rep]at k
   | str _=>simp [Rep]at k
   | _=>simp [eqD]at q2
 | .ty _,_,_,_,_,_,_,_,h,_=>by simp [eqD]at h
 | .at_ _,_,_,_,_,_,_,_,h,_=>by simp [eqD]at h
 | .ref _,_,_,_,_,_,_,_,h,_=>by simp [eqD]at h
 | .dct _ _,_,_,_,_,_,_,_,h,_=>by simp [eqD]at h
 | .obj _ _ _,_,_,_,_,_,_,_,h,_=>by simp [eqD]at h
theorem qb.cong {w:Wd}:∀ {ds es zs:List D} {vs:List V} {b c:Bool},qb w H ds vs→qb w H es vs→qba ds zs=some b→qba es zs=some c→b=c
 | [],es,zs,vs,b,c,h,k,q1,q2=>by
   cases (show vs=[] from h)
   cases es with
   | nil=>rw[q1]at q2;simpa using q2
   | cons e es=>obtain ⟨_,_,z,_⟩:=k;cases z
 | d::ds,[],zs,vs,b,c,⟨v,r,e1,hd,t⟩,k,q1,q2=>by
   cases (show vs=[] from k)
   cases e1
 | d::ds,e::es,[],vs,b,c,_,_,q1,q2=>by simp [qba]at q1
 | d ::ds,e::es,z::zs,vs,b,c,⟨v,r,e1,hd,t⟩,⟨v',r',e2,hd',t'⟩,q1,q2=>by
   rw[e1]at e2;cases e2
   rw[qba]at q1 q2
   cases a1:eqD d z with
   | none=>rw[a1]at q1;simp at q1
   | some p =>
     cases a2:qba ds zs with
     | none=>rw[a1,a2]at q1;simp at q1
     | some p' =>
       cases b1:eqD e z with
       | none=>rw[b1]at q2;simp at q2
       | some q =>
         cases b2:qba es zs with
         | none=>rw[b1,b2]at q2;simp at q2
         | some q' =>
           rw[a1,a2]at q1
           rw[b1,b2]at q2
           rw[Rep.cong hd hd' a1 b1,qb.cong t t' a2 b2]at q1
           rw[q1]at q2
           simpa using q2
end
theorem qm1 {w:Wd} {its:List Value} {vs:List V} {ds:List D} {d:D} (hvs:qb w H ds vs) (r:Vals vs its) {i:Nat} {u:Value} {e:D} {c:Bool} (hk:∀ (j:Nat) (f:D),ds[j]? =some f→∃ c,eqD f d=some c) (hu:its[i]? =some u) (he:ds[i]? =some e) (hc:eqD e d=some c):inE its ds d u=c:=by
 unfold inE
 cases c with
 | true=>exact @decide_eq_true _ (Classical.propDecidable _) ⟨i,e,hu,he,hc⟩
 | false =>
   refine @decide_eq_false _ (Classical.propDecidable _) ?_
   rintro ⟨j,e',hu',he',h'⟩
   obtain ⟨v1,f1,q1⟩:=hvs.get he
   obtain ⟨v2,f2,q2⟩:=hvs.get he'
   obtain ⟨u1,g1,r1⟩:=r.get f1
   obtain ⟨u2,g2,r2⟩:=r.get f2
   rw[hu]at g1;cases g1
   rw[hu']at g2;cases g2
   cases r1.inj r2
   have:=Rep.cong q1 q2 hc h'
   cases this
theorem qgf {w:Wd} {its:List Value} {vs:List V} {ds:List D} {d:D} {b:Bool} (hvs:qb w H ds vs) (r:Vals vs its) (hb:qdy d ds=some b):its.any (inE its ds d)=b:=by
 have l1:=hvs.length
 have l2:=r.length
 have hk:∀ (j:Nat) (f:D),ds[j]? =some f→∃ c,eqD f d=some c:=fun j f e=>let ⟨c,h,_⟩:=qge hb e;⟨c,h⟩
 rw[← qlc hb,Bool.eq_iff_iff,List.any_eq_true,List.any_eq_true]
 constructor
 · rintro ⟨u,hu,h⟩
   obtain ⟨i,hi,rfl⟩:=List.getElem_of_mem hu
   have hi2:i < ds.length:=by omega
   obtain ⟨c,hc⟩:=hk i ds[i] (List.getElem?_eq_getElem hi2)
   rw[qm1 hvs r hk (List.getElem?_eq_getElem hi) (List.getElem?_eq_getElem hi2) hc]at h
   exact⟨ds[i],List.getElem_mem hi2,by rw[hc];exact h⟩
 · rintro ⟨e,he,h⟩
   obtain ⟨i,hi,rfl⟩:=List.getElem_of_mem he
   have hi2:i < its.length:=by omega
   obtain ⟨c,hc⟩:=hk i ds[i] (List.getElem?_eq_getElem hi)
   rw[hc]at h
   exact⟨its[i],List.getElem_mem hi2,by rw[qm1 hvs r hk (List.getElem?_eq_getElem hi2) (List.getElem?_eq_getElem hi) hc];exact h⟩
theorem qeq {w:Wd} {A:Around} (I:Inv X pins σ H s) {its:List Value} {vs:List V} {ds:List D} {d:D} {x:V} {v:Value} {b:Bool} (hu:A.units+60 < cLine) (hvs:qb w H ds vs) (r:Vals vs its) (hx:Rep w H d x) (rx:RelV x v) (hb:qdy d ds=some b) :
   ∀ y,y ∈ its→SeqAt.EqAt A s y v (inE its ds d y):=fun y hy=>by
 have l1:=hvs.length
 have l2:=r.length
 obtain ⟨i,hi,rfl⟩:=List.getElem_of_mem hy
 have hi2:i < ds.length:=by omega
 obtain ⟨c,hc,hdp⟩:=qge hb (List.getElem?_eq_getElem hi2)
 rw[qm1 hvs r (fun j f e=>let ⟨c,h,_⟩:=qge hb e;⟨c,h⟩) (List.getElem?_eq_getElem hi) (List.getElem?_eq_getElem hi2) hc]
 obtain ⟨v1,f1,q1⟩:=hvs.get (List.getElem?_eq_getElem hi2)
 obtain ⟨u1,g1,r1⟩:=r.get f1
 obtain ⟨_,e1⟩:=List.getElem?_eq_some_iff.mp g1
 rw[e1]
 exact qgz I 60 A _ _ _ _ _ _ _ hdp hu hc q1 hx r1 rx
theorem Rep.isNon {w:Wd} {d:D} {v:V} (h:Rep w H d v):decide (v=.non)=d.isNon:=by
 cases d <;> simp only [Rep]at h <;> first
   | (subst h;rfl)
   | (obtain ⟨_,_,h⟩:=h;subst h;rfl)
   | (obtain ⟨_,_,h,_⟩:=h;subst h;rfl)
   | (obtain ⟨_,_,_,h,_⟩:=h;subst h;rfl)
theorem qg1 {d:D} {S:Sto}:(look d S).isNon=d.isNon:=by
 cases d <;> first | rfl | skip
 case ref l =>
   unfold look
   dsimp only
   cases S[l]? with
   | none=>rfl
   | some c=>cases c <;> rfl
theorem qgg {op:CmpOp} {p:Int→Int→Bool} (ho:OpR X (compareOp op) (rI0 fun i j=>.bl (p i j))):OpT X (compareOp op) (seen (qrf p)):=by
 refine⟨_,ho,fun E w H S dx dy x y Q h rx ry q=> ?_⟩
 unfold seen at q
 cases e1:look dx S <;> cases e2:look dy S <;> rw[e1,e2]at q <;> first | exact False.elim q | skip
 exact⟨_,_,qp rx e1,qp ry e2,now h (d:=.bl _) rfl q⟩
theorem q2d:OpT X (compareOp .Is) (seen (isM false)):=by
 refine⟨_,qxk,fun E w H S dx dy x y Q h rx ry q=> ?_⟩
 unfold seen at q
 cases e2:look dy S <;> rw[e2]at q <;> first | exact False.elim q | skip
 refine⟨qep ry e2,?_⟩
 have:=now h (d:=.bl _) rfl q
 rw[qg1]at this
 rw[rx.isNon]
 simpa using this
theorem qrg:OpT X (compareOp .IsNot) (seen (isM true)):=by
 refine⟨_,qtm,fun E w H S dx dy x y Q h rx ry q=> ?_⟩
 unfold seen at q
 cases e2:look dy S <;> rw[e2]at q <;> first | exact False.elim q | skip
 refine⟨qep ry e2,?_⟩
 have:=now h (d:=.bl _) rfl q
 rw[qg1]at this
 rw[rx.isNon]
 simpa using this
theorem qn5 {x y:V} (h:qmk x y=true) (f:qip x=true) (g:qip y=true):decide (x=y)=eqV x y:=by
 cases x <;> cases y <;> first | (cases h;done) | (cases f;done) | (cases g;done) | rfl | exact qjf | (show decide _=(_==_);simp [Bool.beq_eq_decide_eq])
theorem qld {d e:D} {z:V} (hz:d.flat=some z):eqD d e=e.flat.map (eqV z):=by
 cases d <;> simp only [D.flat]at hz <;> first | (cases hz;done) | (cases hz;rw[eqD])
theorem qix {d e:D} {b:Bool} (hz:d.flat=none) (hb:eqD d e=some b):(∃ xs ys,d=.lst xs∧e=.lst ys)∨(∃ xs ys,d=.tup xs∧e=.tup ys):=by
 cases d <;> simp only [D.flat]at hz <;> first | (cases hz;done) | skip
 case lst xs=>cases e <;> first | exact .inl ⟨_,_,rfl,rfl⟩ | (simp [eqD]at hb;done)
 case tup xs=>cases e <;> first | exact .inr ⟨_,_,rfl,rfl⟩ | (simp [eqD]at hb;done)
 all_goals simp [eqD]at hb
noncomputable def qym (neg:Bool):R2:=fun x y H Q=>∃ (w:Wd) (S:Sto) (dx dy:D) (b:Bool),qf w H S∧Rep w H dx x∧Rep w H dy y∧eqD (look dx S) (look dy S)=some b∧(look dx S).dep≤60∧(match (look dx S).flat,(look dy S).flat with | some a,some c=>qmk a c | _,_=>true)=true∧Q (.bl (neg != b)) H
theorem qyn (hu:X.A.units+64 < cLine):OpR X (compareOp .Eq) (qym false):=by
 intro pins s σ H x y v u Q I rx ry h
 obtain ⟨w,S,dx,dy,b,h,r1,r2,hb,hd,hs,q⟩:=h
 cases hz:(look dx S).flat with
 | some z =>
   rw[qld hz]at hb
   cases he:(look dy S).flat with
   | none=>rw[he]at hb;simp at hb
   | some z' =>
     rw[he]at hb
     rw[hz,he]at hs
     obtain ⟨rfl,f1⟩:=qa5 r1 hz
     obtain ⟨rfl,f2⟩:=qa5 r2 he
     have hb:eqV x y=b:=by simpa using hb
     refine q1k pins s σ H x y v u Q I rx ry ⟨hs,?_⟩
     rw[qn5 hs f1 f2,hb]
     simpa using q
 | none =>
   rcases qix hz hb with ⟨xs,ys,z1,z2⟩ | ⟨xs,ys,z1,z2⟩
   · obtain ⟨a,vs,rfl,ha,hvs⟩:=qk h r1 z1
     obtain ⟨c,ws,rfl,hc,hws⟩:=qk h r2 z2
     rw[z1,z2,eqD]at hb
     cases (show v=Value.ref a from rx);cases (show u=Value.ref c from ry)
     obtain ⟨ia,ra,pa,_⟩:=I.list (SqL.of ha)
     obtain ⟨ib,rb,pb,_⟩:=I.list (SqL.of hc)
     have la:=ra.length;have lb:=rb.length
     have l1:=hvs.length;have l2:=hws.length
     by_cases hxy:xs.length=ys.length
     case neg =>
       simp only [hxy,if_false]at hb
       cases hb
       exact SeqAt.eq_list_lengthsAt pa.isList pb.isList (by simp;omega) (by omega) ⟨.bl _,H,I,rfl,by simpa using q⟩
     simp only [hxy,if_true]at hb
     rw[z1]at hd
     simp only [D.dep]at hd
     refine SeqAt.eq_listAt (e:=qcr xs ys) pa.isList pb.isList (by simp;omega) (by omega) (fun j h1 h2=> ?_) ?_
     · simp only [List.size_toArray]at h1 h2
       obtain ⟨x1,y1,v1,w1,e1,q0,q1,q2,s1,s2⟩:=qdc hvs hws ra rb hb h1 h2
       have hdj:=qdx e1
       exact qgz I 60 X.A.in1 _ _ _ _ _ _ _ (by omega) (by show X.A.units+1+60 < cLine;omega) q0 q1 q2 s1 s2
     · rw[show ia.toArray.size=xs.length by simp;omega,qb0 hb]
       exact⟨.bl _,H,I,rfl,by simpa using q⟩
   · obtain ⟨a,vs,rfl,ha,hvs⟩:=qaa h r1 z1
     obtain ⟨c,ws,rfl,hc,hws⟩:=qaa h r2 z2
     rw[z1,z2,eqD]at hb
     cases (show v=Value.ref a from rx);cases (show u=Value.ref c from ry)
     obtain ⟨ia,ra,pa,_⟩:=I.tuple (SqT.of ha)
     obtain ⟨ib,rb,pb,_⟩:=I.tuple (SqT.of hc)
     have la:=ra.length;have lb:=rb.length
     have l1:=hvs.length;have l2:=hws.length
     by_cases hxy:xs.length=ys.length
     case neg=>simp [hxy]at hb
     simp only [hxy,if_true]at hb
     rw[z1]at hd
     simp only [D.dep]at hd
     refine SeqAt.eq_tupleAt (e:=qcr xs ys) (show s.heap.IsTuple a ia.toArray from pa) (show s.heap.IsTuple c ib.toArray from pb) (by omega) (fun j h1 h2=> ?_) ?_
     · simp only [List.size_toArray]at h1 h2
       obtain ⟨x1,y1,v1,w1,e1,q0,q1,q2,s1,s2⟩:=qdc hvs hws ra rb hb h1 h2
       have hdj:=qdx e1
       exact qgz I 60 X.A.in1 _ _ _ _ _ _ _ (by omega) (by show X.A.units+1+60 < cLine;omega) q0 q1 q2 s1 s2
     · rw[show ib.toArray.size=ia.toArray.size by simp;omega,Nat.min_self,show ia.toArray.size=xs.length by simp;omega,qb0 hb]
       simp only [beq_self_eq_true,Bool.and_true]
       exact⟨.bl _,H,I,rfl,by simpa using q⟩
theorem qyo (hu:X.A.units+64 < cLine):OpR X (compareOp .NotEq) (qym true):=by
 intro pins s σ H x y v u Q I rx ry h
 obtain ⟨w,S,dx,dy,b,h,r1,r2,hb,hd,hs,q⟩:=h
 cases hz:(look dx S).flat with
 | some z =>
   rw[qld hz]at hb
   cases he:(look dy S).flat with
   | none=>rw[he]at hb;simp at hb
   | some z' =>
     rw[he]at hb
     rw[hz,he]at hs
     obtain ⟨rfl,f1⟩:=qa5 r1 hz
     obtain ⟨rfl,f2⟩:=qa5 r2 he
     have hb:eqV x y=b:=by simpa using hb
     refine q1l pins s σ H x y v u Q I rx ry ⟨hs,?_⟩
     rw[qn5 hs f1 f2,hb]
     simpa using q
 | none =>
   rcases qix hz hb with ⟨xs,ys,z1,z2⟩ | ⟨xs,ys,z1,z2⟩
   · obtain ⟨a,vs,rfl,ha,hvs⟩:=qk h r1 z1
     obtain ⟨c,ws,rfl,hc,hws⟩:=qk h r2 z2
     rw[z1,z2,eqD]at hb
     cases (show v=Value.ref a from rx);cases (show u=Value.ref c from ry)
     obtain ⟨ia,ra,pa,_⟩:=I.list (SqL.of ha)
     obtain ⟨ib,rb,pb,_⟩:=I.list (SqL.of hc)
     have la:=ra.length;have lb:=rb.length
     have l1:=hvs.length;have l2:=hws.length
     by_cases hxy:xs.length=ys.length
     case neg =>
       simp only [hxy,if_false]at hb
       cases hb
       exact of_rcne (SeqAt.RcNeAt.lists_lengths pa.isList pb.isList (by simp;omega) (by omega)) ⟨.bl _,H,I,rfl,by simpa using q⟩
     simp only [hxy,if_true]at hb
     rw[z1]at hd
     simp only [D.dep]at hd
     refine of_rcne (SeqAt.RcNeAt.lists (e:=qcr xs ys) pa.isList pb.isList (by simp;omega) (by omega) (fun j h1 h2=> ?_)) ?_
     · simp only [List.size_toArray]at h1 h2
       obtain ⟨x1,y1,v1,w1,e1,q0,q1,q2,s1,s2⟩:=qdc hvs hws ra rb hb h1 h2
       have hdj:=qdx e1
       exact qgz I 60 X.A.in1 _ _ _ _ _ _ _ (by omega) (by show X.A.units+1+60 < cLine;omega) q0 q1 q2 s1 s2
     · rw[show ia.toArray.size=xs.length by simp;omega,qb0 hb]
       exact⟨.bl _,H,I,rfl,by simpa using q⟩
   · obtain ⟨a,vs,rfl,ha,hvs⟩:=qaa h r1 z1
     obtain ⟨c,ws,rfl,hc,hws⟩:=qaa h r2 z2
     rw[z1,z2,eqD]at hb
     cases (show v=Value.ref a from rx);cases (show u=Value.ref c from ry)
     obtain ⟨ia,ra,pa,_⟩:=I.tuple (SqT.of ha)
     obtain ⟨ib,rb,pb,_⟩:=I.tuple (SqT.of hc)
     have la:=ra.length;have lb:=rb.length
     have l1:=hvs.length;have l2:=hws.length
     by_cases hxy:xs.length=ys.length
     case neg=>simp [hxy]at hb
     simp only [hxy,if_true]at hb
     rw[z1]at hd
     simp only [D.dep]at hd
     refine of_rcne (SeqAt.RcNeAt.tuples (e:=qcr xs ys) (show s.heap.IsTuple a ia.toArray from pa) (show s.heap.IsTuple c ib.toArray from pb) (by omega) (fun j h1 h2=> ?_)) ?_
     · simp only [List.size_toArray]at h1 h2
       obtain ⟨x1,y1,v1,w1,e1,q0,q1,q2,s1,s2⟩:=qdc hvs hws ra rb hb h1 h2
       have hdj:=qdx e1
       exact qgz I 60 X.A.in1 _ _ _ _ _ _ _ (by omega) (by show X.A.units+1+60 < cLine;omega) q0 q1 q2 s1 s2
     · rw[show ib.toArray.size=ia.toArray.size by simp;omega,Nat.min_self,show ia.toArray.size=xs.length by simp;omega,qb0 hb]
       simp only [beq_self_eq_true,Bool.and_true]
       exact⟨.bl _,H,I,rfl,by simpa using q⟩
theorem qwe {neg:Bool} {op:CmpOp} (ho:OpR X (compareOp op) (qym neg)):OpT X (compareOp op) (seen (eqM neg)):=by
 refine⟨_,ho,fun E w H S dx dy x y Q h rx ry q=> ?_⟩
 unfold seen eqM at q
 cases e:eqD (look dx S) (look dy S)with
 | none=>rw[e]at q;exact False.elim q
 | some b =>
   rw[e]at q
   obtain ⟨hz,q⟩:=Wp.iteF q
   rw[Bool.and_eq_true]at hz
   exact⟨w,S,dx,dy,b,h,rx,ry,e,of_decide_eq_true hz.1,hz.2,now h (d:=.bl _) rfl q⟩
noncomputable def qyp (neg:Bool):R2:=fun x y H Q=>∃ (w:Wd) (p:Addr) (vs:List V) (ds:List D) (d:D) (b:Bool),y=.ref p∧(H p=some (.lst vs)∨H p=some (.tup vs))∧qb w H ds vs∧Rep w H d x∧qdy d ds=some b∧Q (.bl (neg != b)) H
theorem qyq (hu:X.A.units+64 < cLine):OpR X (compareOp .In) (qyp false):=by
 intro pins s σ H x y v u Q I rx ry h
 obtain ⟨w,p,vs,ds,d,b,rfl,hp,hvs,hx,hk,q⟩:=h
 cases ry
 rcases hp with hp | hp
 · obtain ⟨its,r,pl,hz⟩:=I.list (SqL.of hp)
   refine SeqAt.in_listAt (inE its ds d) pl.isList (fun w hw=>qeq I (A:=X.A.in1) (by show X.A.units+1+60 < cLine;omega) hvs r hx rx hk w (by simpa using hw)) ⟨.bl _,H,I,rfl,?_⟩
   rw[show its.toArray.any (inE its ds d)=its.any (inE its ds d)by simp,qgf hvs r hk]
   simpa using q
 · obtain ⟨its,r,pl,hz⟩:=I.tuple (SqT.of hp)
   refine SeqAt.in_tupleAt (inE its ds d) (show s.heap.IsTuple p its.toArray from pl) (fun w hw=>qeq I (A:=X.A.in1) (by show X.A.units+1+60 < cLine;omega) hvs r hx rx hk w (by simpa using hw)) ⟨.bl _,H,I,rfl,?_⟩
   rw[show its.toArray.any (inE its ds d)=its.any (inE its ds d)by simp,qgf hvs r hk]
   simpa using q
theorem qpj (hu:X.A.units+64 < cLine):OpR X (compareOp .NotIn) (qyp true):=by
 intro pins s σ H x y v u Q I rx ry h
 obtain ⟨w,p,vs,ds,d,b,rfl,hp,hvs,hx,hk,q⟩:=h
 cases ry
 rcases hp with hp | hp
 · obtain ⟨its,r,pl,hz⟩:=I.list (SqL.of hp)
   refine SeqAt.notIn_listAt (inE its ds d) pl.isList (fun w hw=>qeq I (A:=X.A.in1) (by show X.A.units+1+60 < cLine;omega) hvs r hx rx hk w (by simpa using hw)) ⟨.bl _,H,I,rfl,?_⟩
   rw[show its.toArray.any (inE its ds d)=its.any (inE its ds d)by simp,qgf hvs r hk]
   simpa using q
 · obtain ⟨its,r,pl,hz⟩:=I.tuple (SqT.of hp)
   refine SeqAt.notIn_tupleAt (inE its ds d) (show s.heap.IsTuple p its.toArray from pl) (fun w hw=>qeq I (A:=X.A.in1) (by show X.A.units+1+60 < cLine;omega) hvs r hx rx hk w (by simpa using hw)) ⟨.bl _,H,I,rfl,?_⟩
   rw[show its.toArray.any (inE its ds d)=its.any (inE its ds d)by simp,qgf hvs r hk]
   simpa using q
theorem qrh (hu:X.A.units+1 < cLine):OpR X (compareOp .In) (fun x y H Q=>∃ a o,y=.ref a∧qgx H a x o∧Q (.bl o.isSome) H):=by
 intro pins s σ H x y v u Q I rx ry h
 obtain ⟨a,o,rfl,g,q⟩:=h
 cases (show u=Value.ref a from ry)
 exact q41 hu I g rx fun s' I'=>⟨.bl _,H,I',rfl,q⟩
theorem qle (hu:X.A.units+1 < cLine):OpR X (compareOp .NotIn) (fun x y H Q=>∃ a o,y=.ref a∧qgx H a x o∧Q (.bl (!o.isSome)) H):=by
 intro pins s σ H x y v u Q I rx ry h
 obtain ⟨a,o,rfl,g,q⟩:=h
 cases (show u=Value.ref a from ry)
 exact qt2 hu I g rx fun s' I'=>⟨.bl _,H,I',rfl,q⟩
theorem qjo {H:Hp} {a:Addr} {kvs:List (Key × V)} {k:Key} (e:Rd H a (.dK kvs)):qgx H a (kV k) (qe4 kvs k):=.inl ⟨kvs,k,e,rfl,rfl⟩
theorem qlf:∀ {ks:List Key} {vs:List V} (k:Key),ks.length=vs.length→(qe4 (ks.zip vs) k).isSome=qf8 ks k
 | [],[],k,_=>rfl
 | [],_::_,_,h=>by simp at h
 | _::_,[],_,h=>by simp at h
 | j ::ks,v::vs,k,h=>by
   rw[List.zip_cons_cons]
   by_cases e:j=k
   · rw[qcy e];simp [qf8,e]
   · rw[qcz e,qlf k (by simpa using h)]
     simp [qf8,e]
theorem qri {w:Wd} {S:Sto} {d:D} {v:V} {k:Key} (r:Rep w H d v) (e:keyOf (look d S)=some k):v=kV k:=by
 cases h:look d S <;> rw[h]at e <;> simp only [keyOf]at e <;> first | (cases e;done) | skip
 · cases e;exact qp r h
 · cases e;exact qa8 r h
theorem qwf {neg:Bool} {op:CmpOp} (ho:OpR X (compareOp op) (qyp neg)) (hd:OpR X (compareOp op) (fun x y H Q=>∃ a o,y=.ref a∧qgx H a x o∧Q (.bl (neg != o.isSome)) H))
   (hs:OpR X (compareOp op) (fun x y H Q=>∃ i j,x=.str i∧y=.str j∧Q (.bl (neg != !(Builtin.Str.occurrences j i 0 j.length 1).isEmpty)) H)):OpT X (compareOp op) (fun x y S=>inM neg x (look y S) S):=by
 refine⟨_,ho.or (hd.or hs),fun E w H S dx dy x y Q h rx ry q=> ?_⟩
 dsimp only at q
 unfold inM at q
 cases e2:look dy S <;> rw[e2]at q <;> first | exact False.elim q | skip
 case lst es =>
   dsimp only at q
   cases e:qdy dx es with
   | none=>rw[e]at q;exact False.elim q
   | some b =>
     rw[e]at q
     obtain ⟨a,vs,rfl,ha,hvs⟩:=qk h ry e2
     exact .inl ⟨w,a,vs,es,dx,b,rfl,.inl ha,hvs,rx,e,now h (d:=.bl _) rfl q⟩
 case tup es =>
   dsimp only at q
   cases e:qdy dx es with
   | none=>rw[e]at q;exact False.elim q
   | some b =>
     rw[e]at q
     obtain ⟨a,vs,rfl,ha,hvs⟩:=qaa h ry e2
     exact .inl ⟨w,a,vs,es,dx,b,rfl,.inr ha,hvs,rx,e,now h (d:=.bl _) rfl q⟩
 case dct ks xs =>
   dsimp only at q
   cases e:keyOf dx with
   | none=>rw[e]at q;exact False.elim q
   | some k =>
     rw[e]at q
     obtain ⟨a,vs,rfl,ha,hl,hvs⟩:=qb1 h ry e2
     have e':keyOf (look dx S)=some k:=by cases dx <;> first | exact e | (cases e;done)
     refine .inr (.inl ⟨a,_,rfl,by rw[qri rx e'];exact qjo ha,?_⟩)
     rw[qlf k (by rw[hl,hvs.length])]
     exact now h (d:=.bl _) rfl q
 case str j =>
   cases dx <;> first | exact False.elim q | skip
   case str i=>exact .inr (.inr ⟨i,j,rx,qa8 ry e2,now h (d:=.bl _) rfl q⟩)
theorem qe6 (hu:X.A.units+64 < cLine):∀ op:CmpOp,OpT X (compareOp op) (qca op)
 | .Lt=>qgg q1m
 | .LtE=>qgg q1n
 | .Gt=>qgg q1o
 | .GtE=>qgg q1p
 | .Eq=>qwe (qyn hu)
 | .NotEq=>qwe (qyo hu)
 | .Is=>q2d
 | .IsNot=>qrg
 | .In=>qwf (qyq hu) (by simpa using qrh (Nat.lt_of_le_of_lt (by omega) hu)) (by simpa using qo3)
 | .NotIn=>qwf (qpj hu) (by simpa using qle (Nat.lt_of_le_of_lt (by omega) hu)) (by simpa using qjg)
end
theorem qc0 {α β:Type} {xs:List α} {ys:List β} (h:xs.length=ys.length):xs.isEmpty=ys.isEmpty:=by
 cases xs <;> cases ys <;> first | rfl | (simp at h;done)
noncomputable def qdz (i:Nat) (Γ:Env):M D:=match Γ[i]? with
 | some (some d)=>M.pure d
 | _=>M.fail
noncomputable def asB:D→M Bool
 | .bl b=>M.pure b
 | _=>M.fail
noncomputable def qrj:D→M D
 | .int i=>M.pure (.int (-i))
 | _=>M.fail
noncomputable def qpk (d:D):M Bool:=fun S=>match look d S with
 | .non=>M.pure false S
 | .bl b=>M.pure b S
 | .int i=>M.pure (i != 0) S
 | .str y=>(if sizeOk y.length then M.pure ((y.length:Int) != 0)else M.fail) S
 | .lst xs=>M.pure (!xs.isEmpty) S
 | .tup xs=>M.pure (!xs.isEmpty) S
 | .dct ks _=>M.pure (!ks.isEmpty) S
 | _=>M.fail S
section
variable {X:Cx} {E:XW} {a b c:Expr} {f g h':Env→M D} {pos:Pos}
theorem q2e {i:Nat} {x:Str} (hN:X.N[i]? =some x) (hv:Vis X.env.scope x) (hd:(x==("__debug__":Str))=false) (hcd:(x==("__classdict__":Str))=false):PE X (.Name x pos) (tD E (qdz i)):=by
 refine PE.mono (qex hN hv hd hcd) fun σ H Q ⟨w,Γ,S,rel,hold,q⟩=> ?_
 unfold qdz at q
 cases e:Γ[i]? with
 | none=>rw[e]at q;exact False.elim q
 | some o =>
   cases o with
   | none=>rw[e]at q;exact False.elim q
   | some d =>
     rw[e]at q
     obtain ⟨v,ev,rv⟩:=rel.at_ i d e
     exact⟨v,ev,now hold rv q⟩
theorem qdd {v:V} {d:D} {e:Expr} (h:PE X e (tC v)) (hr:∀ w H,Rep w H d v):PE X e (tD E fun _=>M.pure d) :=
 PE.mono h fun σ H Q ⟨w,Γ,S,rel,hold,q⟩=>now hold (hr w H) q
theorem q42 {op:Operator} {k:D→D→M D} (ot:OpT X (binaryOp op) k) (ha:PE X a (tD E f)) (hb:PE X b (tD E g)):PE X (.BinOp a op b pos) (tD E fun Γ=>M.bind (f Γ) fun x=>M.bind (g Γ) fun y=>k x y):=by
 obtain ⟨r,ho,hk⟩:=ot
 refine PE.mono (q1h ho ha hb) fun σ H Q ⟨w,Γ,S,rel,hold,q⟩=> ?_
 exact qe (k:=fun x Γ=>M.bind (g Γ) fun y=>k x y) rel hold q fun dx x S1 w1 H1 l1 rel1 h1 rx q1=>qe (k:=fun y Γ=>k dx y) rel1 h1 q1 fun dy y S2 w2 H2 l2 rel2 h2 ry q2=>hk E w2 H2 S2 dx dy x y Q h2 (rx.mono l2) ry q2
theorem q2f {op:CmpOp} {k:D→D→M D} (ot:OpT X (compareOp op) k) (ha:PE X a (tD E f)) (hb:PE X b (tD E g)) (hm:behindInMarks op b=false):PE X (.Compare a [op] [b] pos) (tD E fun Γ=>M.bind (f Γ) fun x=>M.bind (g Γ) fun y=>k x y):=by
 obtain ⟨r,ho,hk⟩:=ot
 refine PE.mono (qtn ho ha hb hm) fun σ H Q ⟨w,Γ,S,rel,hold,q⟩=> ?_
 exact qe (k:=fun x Γ=>M.bind (g Γ) fun y=>k x y) rel hold q fun dx x S1 w1 H1 l1 rel1 h1 rx q1=>qe (k:=fun y Γ=>k dx y) rel1 h1 q1 fun dy y S2 w2 H2 l2 rel2 h2 ry q2=>hk E w2 H2 S2 dx dy x y Q h2 (rx.mono l2) ry q2
theorem toB {w:Wd} {H:Hp} {S:Sto} {m:M D} {Q:Bool→Hp→Prop} (q:Wp E w H (M.bind m asB S) fun b _ _ H'=>Q b H'):Wp E w H (m S) (PV fun v H'=>∃ k,v=.bl k∧Q k H'):=by
 refine(Wp.bind q).mono fun d S1 w1 H1 l1 h1 q1 v rv=> ?_
 cases d <;> first | exact False.elim q1 | skip
 exact⟨_,rv,q1 _ _ (Le.refl _ _) h1⟩
theorem qyr {op:CmpOp} {k:D→D→M D} (ot:OpT X (compareOp op) k) (ha:PE X a (tD E f)) (hb:PE X b (tD E g)) (hm:behindInMarks op b=false):PT X (.Compare a [op] [b] pos) (tB E fun Γ=>M.bind (M.bind (f Γ) fun x=>M.bind (g Γ) fun y=>k x y) asB):=by
 obtain ⟨r,ho,hk⟩:=ot
 refine PT.mono (qto ho ha hb hm) fun σ H Q ⟨w,Γ,S,rel,hold,q⟩=> ?_
 exact qe (k:=fun x Γ=>M.bind (g Γ) fun y=>k x y) rel hold (toB q) fun dx x S1 w1 H1 l1 rel1 h1 rx q1=>qe (k:=fun y Γ=>k dx y) rel1 h1 q1 fun dy y S2 w2 H2 l2 rel2 h2 ry q2=>hk E w2 H2 S2 dx dy x y _ h2 (rx.mono l2) ry q2
noncomputable def qg2 (k k':D→D→M D) (f g h:Env→M D) (Γ:Env):M D:=M.bind (f Γ) fun x=>M.bind (g Γ) fun y=>M.bind (k x y) fun z=>M.bind (asB z) fun b=>if b=true then M.bind (h Γ) fun u=>k' y u else M.pure (.bl false)
theorem qlg {op op':CmpOp} {k k':D→D→M D} {r r':R2} {σ:St} {H:Hp} {Q:VK} (hk:∀ (E:XW) w H S dx dy x y Q,qf w H S→Rep w H dx x→Rep w H dy y→Wp E w H (k dx dy S) (PV Q)→r x y H Q)
   (hk':∀ (E:XW) w H S dx dy x y Q,qf w H S→Rep w H dx x→Rep w H dy y→Wp E w H (k' dx dy S) (PV Q)→r' x y H Q) {w:Wd} {Γ:Env} {S:Sto} (rel:Rel w H σ Γ) (hold:qf w H S) (q:Wp E w H (qg2 k k' f g h' Γ S) (PV Q)) :
   qml r r' (tD E f) (tD E g) (tD E h') σ H Q:=by
 refine qe (k:=fun x Γ=>M.bind (g Γ) fun y=>M.bind (k x y) fun z=>M.bind (asB z) fun b=>if b=true then M.bind (h' Γ) fun u=>k' y u else M.pure (.bl false)) rel hold q fun dx x S1 w1 H1 l1 rel1 h1 rx q1=> ?_
 refine qe (k:=fun y Γ=>M.bind (k dx y) fun z=>M.bind (asB z) fun b=>if b=true then M.bind (h' Γ) fun u=>k' y u else M.pure (.bl false)) rel1 h1 q1 fun dy y S2 w2 H2 l2 rel2 h2 ry q2=> ?_
 refine hk E w2 H2 S2 dx dy x y _ h2 (rx.mono l2) ry ((Wp.bind q2).mono fun z S3 w3 H3 l3 h3 q3 v rv=> ?_)
 cases z <;> first | exact False.elim q3 | skip
 rename_i bb
 refine⟨bb,rv,?_⟩
 cases bb with
 | true =>
   rw[if_pos rfl]
   exact qe (k:=fun u Γ=>k' dy u) (rel2.mono l3) h3 q3 fun du u S4 w4 H4 l4 rel4 h4 ru q4=>hk' E w4 H4 S4 dy du y u Q h4 (ry.mono (l3.trans l4)) ru q4
 | false =>
   rw[if_neg Bool.false_ne_true]
   exact now h3 (d:=.bl _) rfl q3
theorem qt8 {op op':CmpOp} {k k':D→D→M D} (ot:OpT X (compareOp op) k) (ot':OpT X (compareOp op') k') (ha:PE X a (tD E f)) (hb:PE X b (tD E g)) (hc:PE X c (tD E h')) (hm:lastMarks [op,op'] [b,c]=false):PE X (.Compare a [op,op'] [b,c] pos) (tD E (qg2 k k' f g h')):=by
 obtain ⟨r,ho,hk⟩:=ot
 obtain ⟨r',ho',hk'⟩:=ot'
 exact PE.mono (qqq ho ho' ha hb hc hm) fun σ H Q ⟨w,Γ,S,rel,hold,q⟩=>qlg (op:=op) (op':=op') hk hk' rel hold q
theorem qrk {op op':CmpOp} {k k':D→D→M D} (ot:OpT X (compareOp op) k) (ot':OpT X (compareOp op') k') (ha:PE X a (tD E f)) (hb:PE X b (tD E g)) (hc:PE X c (tD E h')) (hm:lastMarks [op,op'] [b,c]=false):PT X (.Compare a [op,op'] [b,c] pos) (tB E fun Γ=>M.bind (qg2 k k' f g h' Γ) asB):=by
 obtain ⟨r,ho,hk⟩:=ot
 obtain ⟨r',ho',hk'⟩:=ot'
 exact PT.mono (qqr ho ho' ha hb hc hm) fun σ H Q ⟨w,Γ,S,rel,hold,q⟩=>qlg (op:=op) (op':=op') hk hk' rel hold (toB q)
theorem q2g (ha:PE X a (tD E f)):PE X (.UnaryOp .USub a pos) (tD E fun Γ=>M.bind (f Γ) qrj):=by
 refine PE.mono (q1i qxj ha) fun σ H Q ⟨w,Γ,S,rel,hold,q⟩=> ?_
 refine qe (k:=fun x Γ=>qrj x) rel hold q fun dx x S1 w1 H1 l1 rel1 h1 rx q1=> ?_
 cases dx <;> first | exact False.elim q1 | skip
 exact⟨_,rx,now h1 (d:=.int _) rfl q1⟩
theorem qys:q1g X (fun x H Q=>∃ a kvs,x=.ref a∧Rd H a (.dK kvs)∧Q (!kvs.isEmpty) H):=by
 intro pins s σ H x v Q I r h
 obtain ⟨a,kvs,rfl,hd,q⟩:=h
 cases (show v=Value.ref a from r)
 exact qt3 I hd fun s' I'=>⟨H,I',q⟩
theorem qt9 {a:Expr} {ta:TE} (ha:PE X a ta) (he:∀ whole,isTrue a X.env whole=(do let v ← whole;standAt a.pos;holding [v] (truthy v))) :
   PT X a (fun σ H Q=>ta σ H fun x H'=>(∃ k,q1q X.K x H' k∧Q k H')∨∃ a kvs,x=.ref a∧Rd H' a (.dK kvs)∧Q (!kvs.isEmpty) H'):=by
 intro pins s σ H Q I h
 rw[he]
 refine wpAny_bind (thn (ha pins s σ H _ I h) fun v s1 ⟨x,H1,I1,r1,q1⟩=>wpAny_bind (wpAny_standAt (wpAny_holding ?_)))
 rcases q1 with q1 | q1
 · exact qxl pins s1 σ H1 x v Q I1 r1 q1
 · exact qys pins s1 σ H1 x v Q I1 r1 q1
theorem q2h (ha:PE X a (tD E f)) (he:∀ whole,isTrue a X.env whole=(do let v ← whole;standAt a.pos;holding [v] (truthy v))):PT X a (tB E fun Γ=>M.bind (f Γ) qpk):=by
 refine PT.mono (qt9 ha he) fun σ H Q ⟨w,Γ,S,rel,hold,q⟩=> ?_
 refine qe (k:=fun x Γ=>qpk x) rel hold q fun dx x S1 w1 H1 l1 rel1 h1 rx q1=> ?_
 unfold qpk at q1
 cases e:look dx S1 <;> rw[e]at q1 <;> first | exact False.elim q1 | skip
 case non=>exact .inl ⟨false,by rw[qep rx e];rfl,q1 _ _ (Le.refl _ _) h1⟩
 case bl b=>exact .inl ⟨b,by rw[qn4 rx e];rfl,q1 _ _ (Le.refl _ _) h1⟩
 case int i=>exact .inl ⟨i != 0,by rw[qp rx e];rfl,q1 _ _ (Le.refl _ _) h1⟩
 case str y =>
   obtain ⟨hz,q1⟩:=Wp.iteF q1
   exact .inl ⟨_,by rw[qa8 rx e];exact⟨of_decide_eq_true hz,rfl⟩,q1 _ _ (Le.refl _ _) h1⟩
 case lst xs =>
   obtain ⟨p,vs,rfl,hp,hvs⟩:=qk h1 rx e
   refine .inl ⟨!vs.isEmpty,.inl ⟨vs,SqL.of hp,rfl⟩,?_⟩
   have:vs.isEmpty=xs.isEmpty:=qc0 hvs.length.symm
   rw[this]
   exact q1 _ _ (Le.refl _ _) h1
 case tup xs =>
   obtain ⟨p,vs,rfl,hp,hvs⟩:=qaa h1 rx e
   refine .inl ⟨!vs.isEmpty,.inr (.inl ⟨vs,SqT.of hp,rfl⟩),?_⟩
   have:vs.isEmpty=xs.isEmpty:=qc0 hvs.length.symm
   rw[this]
   exact q1 _ _ (Le.refl _ _) h1
 case dct ks xs =>
   obtain ⟨p,vs,rfl,hp,hl,hvs⟩:=qb1 h1 rx e
   refine .inr ⟨p,_,rfl,hp,?_⟩
   have:(ks.zip vs).isEmpty=ks.isEmpty:=qc0 (by rw[List.length_zip,← hvs.length,← hl,Nat.min_self])
   rw[this]
   exact q1 _ _ (Le.refl _ _) h1
theorem qbu {α:Type} {f:Env→M Bool} {k:Bool→Env→M α} {σ:St} {H:Hp} {w:Wd} {Γ:Env} {S:Sto} {P:α→Sto→Wd→Hp→Prop} {Q:Bool→Hp→Prop} (r:Rel w H σ Γ) (h:qf w H S)
   (q:Wp E w H (M.bind (f Γ) (fun d=>k d Γ) S) P) (hk:∀ b S1 w1 H1,Le w H w1 H1→Rel w1 H1 σ Γ→qf w1 H1 S1→Wp E w1 H1 (k b Γ S1) P→Q b H1):tB E f σ H Q :=
 ⟨w,Γ,S,r,h,(Wp.bind q).mono fun b S1 w1 H1 l h1 q1=>hk b S1 w1 H1 l (r.mono l) h1 q1⟩
noncomputable def q2i (f g:Env→M Bool) (Γ:Env):M Bool:=M.bind (f Γ) fun b=>if b=true then g Γ else M.pure false
noncomputable def orB (f g:Env→M Bool) (Γ:Env):M Bool:=M.bind (f Γ) fun b=>if b=true then M.pure true else g Γ
noncomputable def qyt (f:Env→M Bool) (Γ:Env):M Bool:=M.bind (f Γ) fun b=>M.pure (!b)
theorem PW.mono {e:Expr} {t t':TT} (h:PW X e t) (k:∀ σ H Q,t' σ H Q→t σ H Q):PW X e t':=fun wh pins s σ H Q I q=>h wh pins s σ H Q I (k σ H Q q)
variable {fa fb:Env→M Bool} {rest:List Expr}
theorem qrl (ha:PT X a (tB E fa)):PW X (.BoolOp .And [a] pos) (tB E fa):=qtd ha
theorem qwg (ha:PT X a (tB E fa)):PW X (.BoolOp .Or [a] pos) (tB E fa):=qwv ha
theorem qrm (ha:PT X a (tB E fa)) (hb:PW X (.BoolOp .And (b::rest) pos) (tB E fb)):PW X (.BoolOp .And (a::b::rest) pos) (tB E (q2i fa fb)):=by
 refine PW.mono (qww ha hb) fun σ H Q ⟨w,Γ,S,rel,hold,q⟩=> ?_
 refine qbu (k:=fun b Γ=>if b=true then fb Γ else M.pure false) rel hold q fun bb S1 w1 H1 l1 rel1 h1 q1=> ?_
 cases bb with
 | true=>exact⟨w1,Γ,S1,rel1,h1,q1⟩
 | false=>exact q1 _ _ (Le.refl _ _) h1
theorem qwh (ha:PT X a (tB E fa)) (hb:PW X (.BoolOp .Or (b::rest) pos) (tB E fb)):PW X (.BoolOp .Or (a::b::rest) pos) (tB E (orB fa fb)):=by
 refine PW.mono (q04 ha hb) fun σ H Q ⟨w,Γ,S,rel,hold,q⟩=> ?_
 refine qbu (k:=fun b Γ=>if b=true then M.pure true else fb Γ) rel hold q fun bb S1 w1 H1 l1 rel1 h1 q1=> ?_
 cases bb with
 | false=>exact⟨w1,Γ,S1,rel1,h1,q1⟩
 | true=>exact q1 _ _ (Le.refl _ _) h1
theorem qyu (ha:PT X a (tB E fa)):PT X (.UnaryOp .Not a pos) (tB E (qyt fa)):=by
 refine PT.mono (qwx ha) fun σ H Q ⟨w,Γ,S,rel,hold,q⟩=> ?_
 exact qbu (k:=fun b Γ=>M.pure (!b)) rel hold q fun bb S1 w1 H1 l1 rel1 h1 q1=>q1 _ _ (Le.refl _ _) h1
noncomputable def qyv (f g:Env→M D) (Γ:Env):M D:=M.bind (f Γ) fun x=>M.bind (asB x) fun b=>if b=true then g Γ else M.pure (.bl false)
noncomputable def orV (f g:Env→M D) (Γ:Env):M D:=M.bind (f Γ) fun x=>M.bind (asB x) fun b=>if b=true then M.pure (.bl true)else g Γ
noncomputable def q2j (f:Env→M D) (Γ:Env):M D:=M.bind (f Γ) fun x=>M.bind (asB x) fun b=>M.pure (.bl (!b))
theorem q2k {op:BoolOp} (ha:PE X a (tD E f)):PE X (.BoolOp op [a] pos) (tD E f):=qwy ha
theorem q2l (ha:PE X a (tD E f)) (hb:PE X (.BoolOp .And (b::rest) pos) (tD E g)):PE X (.BoolOp .And (a::b::rest) pos) (tD E (qyv f g)):=by
 refine PE.mono (qwz ha hb) fun σ H Q ⟨w,Γ,S,rel,hold,q⟩=> ?_
 refine qe (k:=fun x Γ=>M.bind (asB x) fun b=>if b=true then g Γ else M.pure (.bl false)) rel hold q fun dx x S1 w1 H1 l1 rel1 h1 rx q1=> ?_
 cases dx <;> first | exact False.elim q1 | skip
 rename_i bb
 refine⟨bb,rx,?_⟩
 cases bb with
 | true=>exact⟨w1,Γ,S1,rel1,h1,q1⟩
 | false=>exact now h1 (d:=.bl _) rfl q1
theorem q43 (ha:PE X a (tD E f)) (hb:PE X (.BoolOp .Or (b::rest) pos) (tD E g)):PE X (.BoolOp .Or (a::b::rest) pos) (tD E (orV f g)):=by
 refine PE.mono (q07 ha hb) fun σ H Q ⟨w,Γ,S,rel,hold,q⟩=> ?_
 refine qe (k:=fun x Γ=>M.bind (asB x) fun b=>if b=true then M.pure (D.bl true)else g Γ) rel hold q fun dx x S1 w1 H1 l1 rel1 h1 rx q1=> ?_
 cases dx <;> first | exact False.elim q1 | skip
 rename_i bb
 refine⟨bb,rx,?_⟩
 cases bb with
 | false=>exact⟨w1,Γ,S1,rel1,h1,q1⟩
 | true=>exact now h1 (d:=.bl _) rfl q1
theorem q2m (ha:PE X a (tD E f)):PE X (.UnaryOp .Not a pos) (tD E (q2j f)):=by
 refine PE.mono (qw0 ha) fun σ H Q ⟨w,Γ,S,rel,hold,q⟩=> ?_
 refine qe (k:=fun x Γ=>M.bind (asB x) fun b=>M.pure (D.bl (!b))) rel hold q fun dx x S1 w1 H1 l1 rel1 h1 rx q1=> ?_
 cases dx <;> first | exact False.elim q1 | skip
 exact⟨_,rx,now h1 (d:=.bl _) rfl q1⟩
noncomputable def ifE (c:Env→M Bool) (f g:Env→M D) (Γ:Env):M D:=M.bind (c Γ) fun b=>if b=true then f Γ else g Γ
theorem q2n (hc:PT X c (tB E fa)) (ha:PE X a (tD E f)) (hb:PE X b (tD E g)):PE X (.IfExp c a b pos) (tD E (ifE fa f g)):=by
 refine PE.mono (qqk hc ha hb) fun σ H Q ⟨w,Γ,S,rel,hold,q⟩=> ?_
 refine qbu (k:=fun b Γ=>if b=true then f Γ else g Γ) rel hold q fun bb S1 w1 H1 l1 rel1 h1 q1=> ?_
 cases bb with
 | true=>exact⟨w1,Γ,S1,rel1,h1,q1⟩
 | false=>exact⟨w1,Γ,S1,rel1,h1,q1⟩
variable {es:List Expr} {e:Expr} {fs:Env→M (List D)}
noncomputable def qrn (f:Env→M D) (r:Env→M (List D)) (Γ:Env):M (List D):=M.bind (f Γ) fun x=>M.bind (r Γ) fun xs=>M.pure (x::xs)
theorem q2o:PA X [] (tL E fun _=>M.pure []):=PA.mono qbo fun σ H Q ⟨w,Γ,S,rel,hold,q⟩=>q _ _ (Le.refl _ _) hold [] rfl
theorem qyw (ha:PE X e (tD E f)) (hr:PA X es (tL E fs)) (hs:starEach (e::es) X.env=(false,eval e X.env)::starEach es X.env):PA X (e::es) (tL E (qrn f fs)):=by
 refine PA.mono (qq ha hr hs) fun σ H Q ⟨w,Γ,S,rel,hold,q⟩=> ?_
 refine qe (k:=fun x Γ=>M.bind (fs Γ) fun xs=>M.pure (x::xs)) rel hold q fun dx x S1 w1 H1 l1 rel1 h1 rx q1=> ?_
 exact⟨w1,Γ,S1,rel1,h1,(Wp.bind q1).mono fun ds S2 w2 H2 l2 h2 q2 vs rvs=>q2 _ _ (Le.refl _ _) h2 _ (qb.cons (rx.mono l2) rvs)⟩
theorem qa1 {α:Type} {f:Env→M (List D)} {k:List D→Env→M α} {σ:St} {H:Hp} {w:Wd} {Γ:Env} {S:Sto} {P:α→Sto→Wd→Hp→Prop} {Q:List V→Hp→Prop} (r:Rel w H σ Γ) (h:qf w H S)
   (q:Wp E w H (M.bind (f Γ) (fun d=>k d Γ) S) P) (hk:∀ ds vs S1 w1 H1,Le w H w1 H1→Rel w1 H1 σ Γ→qf w1 H1 S1→qb w1 H1 ds vs→Wp E w1 H1 (k ds Γ S1) P→Q vs H1):tL E f σ H Q :=
 ⟨w,Γ,S,r,h,(Wp.bind q).mono fun d S1 w1 H1 l h1 q1 v rv=>hk d v S1 w1 H1 l (r.mono l) h1 rv q1⟩
noncomputable def mkT (ds:List D):M D:=if sizeOk ds.length then M.pure (.tup ds)else M.fail
noncomputable def mkL (new:Bool) (ds:List D):M D:=if sizeOk ds.length then alloc new (.lst ds)else M.fail
theorem q2p {x1:Nat} (h:PA X es (tL E fs)):PE X (.Tuple es x1 pos) (tD E fun Γ=>M.bind (fs Γ) mkT):=by
 refine PE.mono (qxp h) fun σ H Q ⟨w,Γ,S,rel,hold,q⟩=> ?_
 refine qa1 (k:=fun ds _=>mkT ds) rel hold q fun ds vs S1 w1 H1 l1 rel1 h1 rv q1=> ?_
 obtain ⟨hz,q1⟩:=Wp.iteF q1
 exact⟨by rw[← rv.length];exact of_decide_eq_true hz,fun p hp=>qgd h1 rv q1 hp⟩
theorem q2q {new:Bool} (h:PA X es (tL E fs)):PE X (.List es pos) (tD E fun Γ=>M.bind (fs Γ) (mkL new)):=by
 refine PE.mono (qmq h) fun σ H Q ⟨w,Γ,S,rel,hold,q⟩=> ?_
 refine qa1 (k:=fun ds _=>mkL new ds) rel hold q fun ds vs S1 w1 H1 l1 rel1 h1 rv q1=> ?_
 obtain ⟨hz,q1⟩:=Wp.iteF q1
 exact⟨by rw[← rv.length];exact of_decide_eq_true hz,fun p hp=>qae h1 rv q1 hp⟩
theorem qyx {new:Bool}:PE X (.Dict [] [] pos) (tD E fun _=>alloc new (.dct [] [])) :=
 PE.mono qre fun σ H Q ⟨w,Γ,S,rel,hold,q⟩=>fun p hp=>qiw (ks:=[]) (xs:=[]) (vs:=[]) hold rfl rfl q hp
end
end T3
namespace L2
open PySem PySem.Spec PyProof.Rows
section
variable {X:Cx}
noncomputable def qua:V→List V→Hp→VK→Prop:=fun x vs H Q=>∃ (l:Addr) (xs:List V) (j:Int) (y:V),x=.ref l∧vs=[.int j,y]∧0≤j∧j≤xs.length∧H l=some (.lst xs)∧xs.length < sizeLine∧Q .non (upd H l (.lst (xs.take j.toNat++y::xs.drop j.toNat)))
theorem qpl:MtM X "list.insert" qua:=by
 intro pins s σ H x vs v us Q I rx rv h
 obtain ⟨l,xs,j,y,rfl,rfl,j0,hj,hH,hz,q⟩:=h
 cases rx
 obtain ⟨u,u2,rfl,ru,ru2⟩:=rv.two
 obtain ⟨t,rfl⟩:=ru
 obtain ⟨z,its,n,r,hl,e⟩:=I.lstM hH
 have hs:sizeLine=16777216:=sizeLine_eq
 have hf:Builtin.List.listFitsIndex j=true:=by
   unfold Builtin.List.listFitsIndex
   simp
   omega
 have hc:¬ (!Builtin.List.listFitsIndex j)=true:=by rw[hf];decide
 have hsz:its.toArray.size≤sizeLine:=by rw[List.size_toArray];omega
 refine call_meets PySem.F.slot_list_insert ⟨_,e,rfl⟩ PySem.F.entry_list_insert (PySem.F.args_list_insert_3 _ _ _) (PySem.AutoSeq1.list_insert_list_int_val_1 l its.toArray n j t u2 hc hsz) ⟨e,?_⟩
 refine⟨.non,_,I.lset (its':=its.take j.toNat++u2::its.drop j.toNat) hH e ?_ ((r.take j.toNat).append (.cons ru2 (r.drop j.toNat))) ?_,rfl,q⟩
 · have hn:¬ (j < 0):=by omega
   have hm:min j.toNat its.length=j.toNat:=by omega
   simp only [hn,if_false,List.size_toArray,hm]
   apply Array.ext'
   simp
   rw[List.take_of_length_le (by simp)]
 · simp
   omega
end
open PySem
section
variable {X:Cx}
noncomputable def rJoin (K:PySem.W.Frag):V→List V→Hp→VK→Prop:=fun x vs H Q=>∃ (z:Str) (l:Addr) (ys:List Str),x=.str z∧vs=[.ref l]∧SqL K H l (ys.map V.str)∧(ys.map (·.length)).sum+ys.length * z.length≤16777216∧Q (.str (PySem.Txt.join z ys)) H
theorem qn6:∀ {ys:List Str} {us:List Value},Vals (ys.map V.str) us→StrsAre us ys
 | [],_,.nil=>.nil
 | y::ys,_,.cons r t=>by
   obtain ⟨k,rfl⟩:=r
   exact .cons y k (qn6 t)
theorem qub:MtM X "str.join" (rJoin X.K):=by
 intro pins s σ H x vs v us Q I rx rv h
 obtain ⟨z,l,ys,rfl,rfl,hl,hz,q⟩:=h
 obtain ⟨t,rfl⟩:=rx
 obtain ⟨u,rfl,ru⟩:=rv.one
 cases ru
 obtain ⟨its,r,pl,_⟩:=I.list hl
 exact join_list pl.isList (by simpa using qn6 r) hz fun t' k=>⟨.str _,H,I.tok k,⟨t',rfl⟩,q⟩
end
section
variable {X:Cx}
theorem qjp:qx X (.type "str") (fun xs H Q=>∃ x,xs=[.str x]∧Q (.str x) H):=by
 intro pins s σ H xs us Q I r h
 obtain ⟨x,rfl,q⟩:=h
 obtain ⟨u,rfl,t,rfl⟩:=vals1 r
 exact PySem.P.str_of_str ⟨.str x,H,I,⟨_,rfl⟩,q⟩
theorem qh0:qx X (.type "int") (fun xs H Q=>∃ x n,xs=[.str x]∧PySem.intText? x=some n∧x.length≤640∧Q (.int n) H):=by
 intro pins s σ H xs us Q I r h
 obtain ⟨x,n,rfl,hn,hl,q⟩:=h
 obtain ⟨u,rfl,t,rfl⟩:=vals1 r
 exact PySem.W.KIN.call_text hn hl ⟨.int n,H,I.tok _,⟨_,rfl⟩,q⟩
theorem qg3:∀ (l:List (Str × Tok)),Vals ((l.map (·.1)).map V.str) (strValues l)
 | []=>.nil
 | p::l=>.cons ⟨p.2,rfl⟩ (qg3 l)
noncomputable def qyy:V→List V→Hp→VK→Prop:=fun x vs H Q=>∃ z y,x=.str z∧vs=[.str y]∧y.length ≠ 0∧z.length+2≤sizeLine∧∀ p,H p=none→Q (.ref p) (upd H p (.lst ((PySem.Txt.split z y).map V.str)))
theorem qro:MtM X "str.split" qyy:=by
 intro pins s σ H x vs v us Q I rx rv h
 obtain ⟨z,y,rfl,rfl,hy,hz,q⟩:=h
 obtain ⟨t,rfl⟩:=rx
 obtain ⟨u',rfl,ru⟩:=rv.one
 obtain ⟨u,rfl⟩:=ru
 have hy:(y.length==0)=false:=by simpa using hy
 have fin:∀ (l:List (Str × Tok)) (k:Nat),l.map (·.1)=Txt.split z y→l.length≤sizeLine→EP X pins σ Q (.ref s.heap.objs.size) { s with heap:=s.heap.push { cls:=.type "list",data:=.seq (strValues l).toArray },toks:=k }:=fun l k e hl=>by
   have hf:H s.heap.objs.size=none:=I.hok.fresh (Nat.le_refl _)
   refine⟨.ref s.heap.objs.size,_,I.laid (o:=.lst ((Txt.split z y).map V.str)) (t':=k) (fun b u e=>Heap.get?_push_of_some _ e) (Nat.le_refl _) ?_,rfl,q _ hf⟩
   refine⟨by rw[← e];simpa using hl,strValues l,0,by rw[← e];exact qg3 l,Heap.get?_push_size _ rfl⟩
 have hn:(Builtin.Str.partsBetween z (Builtin.Str.occurrences z y 0 z.length (z.length+1)) y.length).length≤sizeLine:=by
   have e1:=StrLaws.occ_length_le z y 0 z.length (z.length+1)
   rw[length_partsBetween];omega
 cases h1:(decide (z.length < y.length) || decide (Builtin.Str.strKind z < Builtin.Str.strKind y))
 · cases hf:(Builtin.Str.occurrences z y 0 z.length (z.length+1)).isEmpty
   · refine call_meets F.slot_str_split (typeIs_str _ _ _) F.entry_str_split (F.args_str_split_2 _ _) (meets_str_split_sep z y t u h1 hy hf (by omega) hn) ?_
     show wants _ _ _ { s with toks:=_,heap:=s.heap.push { cls:=.type "list",data:=.seq (strsFrom s.toks (Builtin.Str.partsBetween z (Builtin.Str.occurrences z y 0 z.length (z.length+1)) y.length)).toArray } }
     rw[strsFrom_eq]
     exact fin (numbered s.toks _) _ ((numbered_texts _ _).trans ((if_neg (ne_true_of_eq_false h1)).trans (if_neg (ne_true_of_eq_false hf))).symm) (by have:=congrArg List.length (numbered_texts s.toks (Builtin.Str.partsBetween z (Builtin.Str.occurrences z y 0 z.length (z.length+1)) y.length));simp at this;omega)
   · exact call_meets F.slot_str_split (typeIs_str _ _ _) F.entry_str_split (F.args_str_split_2 _ _) (meets_str_split_not_found z y t u h1 hy hf)
       (fin [(z,t)] s.toks ((if_neg (ne_true_of_eq_false h1)).trans (if_pos hf)).symm (by show 1≤sizeLine;decide))
 · exact call_meets F.slot_str_split (typeIs_str _ _ _) F.entry_str_split (F.args_str_split_2 _ _) (meets_str_split_cannot_occur z y t u h1)
     (fin [(z,t)] s.toks (if_pos h1).symm (by show 1≤sizeLine;decide))
noncomputable def Its (x:Str):It:=⟨fun i _=>i < x.cps.size,fun i H v H'=>H'=H∧∃ c,x.cps[i]? =some c∧v=.str ⟨#[c]⟩,fun i _=>x.cps.size≤i⟩
theorem qpm {P:Program} {w:World} {K:PySem.W.Frag} {tg:Expr} (it:Addr) (x:Str) (t:Tok):Turn P w K tg (Its x) [it] it (fun i h=>h.IsStrIter it "str_ascii_iterator" x t i) where
 mem:=by simp
 obj:=fun i h st b hb=>by
   have e:b=it:=by simpa using hb
   subst e
   obtain ⟨o,e,c,d⟩:=st
   exact⟨o,e,fun v z=>by rw[d]at z;cases z⟩
 keep:=fun i h h' st k=>by
   obtain ⟨o,e,r⟩:=st
   exact⟨o,k it (by simp) o e,r⟩
 item:=by
   intro X hP hw hK hc i pins s σ H E I hf st hg
   subst hP hw hK
   obtain ⟨f0,f1,f2,f3,f4,f5⟩:=hf it (by simp)
   have hg:i < x.cps.size:=hg
   refine wpAny_pyNext_ascii_item st (c:=x.cps[i]) (Array.getElem?_eq_getElem hg) fun h' st' sb=> ?_
   have I1:Inv X pins σ H { s with heap:=h',toks:=s.toks+1 }:=I.turned (fun b o hb e=>(sb.2 b hb).trans e) f0 f1 f3 f4 f5
   obtain ⟨o,e,c,d⟩:=id st'
   exact⟨_,rfl,qky (s:={ s with heap:=h',toks:=s.toks+1 }) e c d (by decide) ⟨.str ⟨#[x.cps[i]]⟩,H,I1,⟨_,rfl⟩,⟨rfl,_,Array.getElem?_eq_getElem hg,rfl⟩,st',fun b hb=>(hf b hb).1⟩⟩
 done:=by
   intro X hP hw hK hc i pins s σ H E I hf st hg
   subst hP hw hK
   obtain ⟨f0,f1,f2,f3,f4,f5⟩:=hf it (by simp)
   have hg:x.cps.size≤i:=hg
   exact wpAny_pyNext_ascii_end (I.ok.hd hc) st (Array.getElem?_eq_none hg) fun h' eb=>⟨rfl,I.turned (t':=s.toks) (fun b o hb e=>eb b o hb e) f0 f1 f3 f4 f5⟩
 self:=fun _ _ _ _ _ st h=>wpAny_pyIter_striter_ascii st h
noncomputable def q2r (tl:TE):TI:=fun σ H R=>tl σ H fun v H1=>∃ x,v=.str x∧x.cps.all (· < 128)=true∧R (Its x) H1
theorem quc {tg l:Expr} {tl:TE} (hl:PE X l tl):PI X tg l (q2r tl):=by
 intro pins s σ H R I h
 refine thn (hl pins s σ H _ I h) fun v s1 ⟨x,H1,I1,r1,q1⟩=> ?_
 obtain ⟨x',rfl,ha,q⟩:=q1
 obtain ⟨t,rfl⟩:=r1
 refine wpAny_pyIter_ascii ha ?_
 refine⟨s1.heap.objs.size,[s1.heap.objs.size],_,_,H1,rfl,I1.kept (t':=s1.toks) fun b o e=>Heap.get?_push_of_some _ e,qpm _ x' t,⟨_,Heap.get?_push_size _ rfl,rfl,rfl⟩,fun b hb=> ?_,q⟩
 have e:b=s1.heap.objs.size:=by simpa using hb
 subst e
 exact I1.fpOk (Nat.le_refl _) (I1.hok.fresh (Nat.le_refl _))
noncomputable def qyz:Key→Tok→Value
 | .inl i,t=>.int i t
 | .inr x,t=>.str x t
noncomputable def tK (k:Key):TE:=fun σ H Q=>Q (kV k) H
theorem qrp {x:Str} {k:Key} {t:Tok} {p:Pos} (hg:Gl X x) (hm:X.mg x=some (qyz k t)) (hdb:(x==("__debug__":Str))=false):PE X (.Name x p) (tK k):=by
 intro pins s σ H Q I h
 refine qbi I hg hm ?_ hdb
 cases k with
 | inl i=>exact⟨.int i,H,I,⟨t,rfl⟩,h⟩
 | inr y=>exact⟨.str y,H,I,⟨t,rfl⟩,h⟩
end
end L2
namespace T3
open PySem PySem.Spec PyProof.Rows L2
noncomputable def qlh:List Key→List D→Key→Option D
 | k::ks,d::ds,j=>if k=j then some d else qlh ks ds j
 | _,_,_=>none
noncomputable def ixM (x y:D):M D:=match x,y with
 | .lst xs,.int i=>match atI xs i with
   | some d=>M.pure d
   | none=>M.fail
 | .tup xs,.int i=>match atI xs i with
   | some d=>M.pure d
   | none=>M.fail
 | .str z,.int i=>match atI z.cps.toList i with
   | some c=>if sizeOk z.length then M.pure (.str ⟨#[c]⟩)else M.fail
   | none=>M.fail
 | .dct ks ds,k=>match keyOf k with
   | some j=>match qlh ks ds j with
     | some d=>M.pure d
     | none=>M.fail
   | none=>M.fail
 | _,_=>M.fail
theorem qjq {w:Wd} {H:Hp} {ds:List D} {vs:List V} {i:Int} {d:D} (r:qb w H ds vs) (e:atI ds i=some d):∃ v,atI vs i=some v∧Rep w H d v:=by
 unfold atI at e ⊢
 rw[← r.length]
 cases q:ixN ds.length i with
 | none=>rw[q]at e;simp at e
 | some j =>
   rw[q]at e
   have e:ds[j]? =some d:=e
   obtain ⟨v,h1,h2⟩:=r.get e
   exact⟨v,h1,h2⟩
theorem qg4 {w:Wd} {H:Hp} {j:Key} {d:D}:∀ {ks:List Key} {ds:List D} {vs:List V},qb w H ds vs→qlh ks ds j=some d→∃ v,qe4 (ks.zip vs) j=some v∧Rep w H d v
 | [],_,_,_,e=>by simp [qlh]at e
 | _::_,[],_,_,e=>by simp [qlh]at e
 | k ::ks,x::ds,_,⟨v,r,e0,h,t⟩,e=>by
   subst e0
   rw[qlh]at e
   rw[List.zip_cons_cons]
   by_cases hk:k=j
   · rw[if_pos hk]at e
     cases e
     exact⟨v,qcy hk,h⟩
   · rw[if_neg hk]at e
     obtain ⟨u,h1,h2⟩:=qg4 t e
     exact⟨u,by rw[qcz hk];exact h1,h2⟩
section
variable {X:Cx} {E:XW} {a b c:Expr} {f g h':Env→M D} {pos:Pos}
theorem qy0 (hu:X.A.units+1 < cLine):IxR X (fun x y H Q=>∃ a v,x=.ref a∧qgx H a y (some v)∧Q v H):=by
 intro value slice pins s σ H x y v u Q I rx ry h hs
 obtain ⟨p,z,rfl,g,q⟩:=h
 cases (show v=Value.ref p from rx)
 unfold subscriptTail
 have hT:=qk9 I g
 refine wpAny_bind ?_
 rw[getitemInPython_of_ne hT.not_modules]
 refine wpAny_bind (wpAny_specialOf hT PySem.F.slot_dict_getitem.lookup ?_)
 have fin:wpAny (model X.prog X.w) X.A (subscripted slice false (.ref p) u) (fun r s₃=>wpAny (model X.prog X.w) X.A (letTemporaryGo value (.ref p) r >>= fun _=>pure r) (EP X pins σ Q) X.xe s₃) X.xe s:=by
   rw[hs]
   exact wpAny_operating (qit hu I g ry fun w' s3 I3 rw'=>wpAny_bind (wpAny_letTemporaryGo (wpAny_pure ⟨z,H,I3,rw',q⟩)))
 exact wpAny_pure (wpAny_bind fin)
noncomputable def IxT (X:Cx) (h:D→D→M D):Prop:=∃ r:R2,IxR X r∧∀ (E:XW) w H S dx dy x y Q,qf w H S→Rep w H dx x→Rep w H dy y→Wp E w H (h dx dy S) (PV Q)→r x y H Q
theorem q2s (hu:X.A.units+1 < cLine):IxT X (fun x y S=>ixM (look x S) y S):=by
 refine⟨_,qts.or (qxt.or (qxu.or (qy0 hu))),fun E w H S dx dy x y Q h rx ry q=> ?_⟩
 dsimp only at q
 unfold ixM at q
 cases e1:look dx S <;> rw[e1]at q <;> first | exact False.elim q | skip
 case lst xs =>
   cases dy <;> first | exact False.elim q | skip
   rename_i i
   dsimp only at q
   cases e:atI xs i with
   | none=>rw[e]at q;exact False.elim q
   | some d =>
     rw[e]at q
     obtain ⟨p,vs,rfl,hp,hvs⟩:=qk h rx e1
     obtain ⟨v,e',rv⟩:=qjq hvs e
     exact .inl ⟨p,vs,i,v,rfl,ry,SqL.of hp,e',now h rv q⟩
 case tup xs =>
   cases dy <;> first | exact False.elim q | skip
   rename_i i
   dsimp only at q
   cases e:atI xs i with
   | none=>rw[e]at q;exact False.elim q
   | some d =>
     rw[e]at q
     obtain ⟨p,vs,rfl,hp,hvs⟩:=qaa h rx e1
     obtain ⟨v,e',rv⟩:=qjq hvs e
     exact .inr (.inl ⟨p,vs,i,v,rfl,ry,SqT.of hp,e',now h rv q⟩)
 case str z =>
   cases dy <;> first | exact False.elim q | skip
   rename_i i
   dsimp only at q
   cases e:atI z.cps.toList i with
   | none=>rw[e]at q;exact False.elim q
   | some c =>
     rw[e]at q
     obtain ⟨hz,q⟩:=Wp.iteF q
     exact .inr (.inr (.inl ⟨z,i,c,qa8 rx e1,ry,of_decide_eq_true hz,e,now h (d:=.str _) rfl q⟩))
 case dct ks ds =>
   dsimp only at q
   cases e:keyOf dy with
   | none=>rw[e]at q;exact False.elim q
   | some j =>
     rw[e]at q
     dsimp only at q
     cases e2:qlh ks ds j with
     | none=>rw[e2]at q;exact False.elim q
     | some d =>
       rw[e2]at q
       obtain ⟨p,vs,rfl,hp,hl,hvs⟩:=qb1 h rx e1
       obtain ⟨v,e',rv⟩:=qg4 hvs e2
       refine .inr (.inr (.inr ⟨p,v,rfl,?_,now h rv q⟩))
       have:y=kV j:=by cases dy <;> first | (cases e;exact ry) | (cases e;done)
       rw[this,← e']
       exact qjo hp
theorem q44 {k:D→D→M D} (ot:IxT X k) (ha:PE X a (tD E f)) (hb:PE X b (tD E g)) (hs:qji b):PE X (.Subscript a b pos) (tD E fun Γ=>M.bind (f Γ) fun x=>M.bind (g Γ) fun y=>k x y):=by
 obtain ⟨r,ho,hk⟩:=ot
 refine PE.mono (q1t ho ha hb hs) fun σ H Q ⟨w,Γ,S,rel,hold,q⟩=> ?_
 exact qe (k:=fun x Γ=>M.bind (g Γ) fun y=>k x y) rel hold q fun dx x S1 w1 H1 l1 rel1 h1 rx q1=>qe (k:=fun y Γ=>k dx y) rel1 h1 q1 fun dy y S2 w2 H2 l2 rel2 h2 ry q2=>hk E w2 H2 S2 dx dy x y Q h2 (rx.mono l2) ry q2
noncomputable def tO (E:XW) (f:Env→M (Option Int)):TO:=fun σ H Q=>∃ w Γ S,Rel w H σ Γ∧qf w H S∧Wp E w H (f Γ S) fun o _ _ H'=>Q o H'
theorem PO.mono {e:Option Expr} {t t':TO} (h:PO X e t) (k:∀ σ H Q,t' σ H Q→t σ H Q):PO X e t':=fun pins s σ H Q I q=>h pins s σ H Q I (k σ H Q q)
noncomputable def asI:D→M (Option Int)
 | .int i=>M.pure (some i)
 | _=>M.fail
theorem qud:PO X none (tO E fun _=>M.pure none):=PO.mono qnx fun σ H Q ⟨w,Γ,S,rel,hold,q⟩=>q _ _ (Le.refl _ _) hold
theorem que (ha:PE X a (tD E f)):PO X (some a) (tO E fun Γ=>M.bind (f Γ) asI):=by
 refine PO.mono (qny ha) fun σ H Q ⟨w,Γ,S,rel,hold,q⟩=> ?_
 refine qe (k:=fun x _=>asI x) rel hold q fun dx x S1 w1 H1 l1 rel1 h1 rx q1=> ?_
 cases dx <;> first | exact False.elim q1 | skip
 exact⟨_,rx,q1 _ _ (Le.refl _ _) h1⟩
noncomputable def cutD (xs:List D) (lo hi:Option Int):List D:=(xs.drop (HT.sIx xs.length 0 lo)).take (HT.sIx xs.length xs.length hi - HT.sIx xs.length 0 lo)
theorem qn7 {w:Wd} {H:Hp} {xs:List D} {vs:List V} (r:qb w H xs vs) (lo hi:Option Int):qb w H (cutD xs lo hi) (qf5 vs lo hi):=by
 unfold cutD qf5
 rw[r.length]
 exact(r.drop _).take _
noncomputable def slM (new:Bool) (x:D) (lo hi:Option Int):M D:=match x with
 | .lst xs=>alloc new (.lst (cutD xs lo hi))
 | .tup xs=>if decide (¬ (HT.sIx xs.length 0 lo=0∧HT.sIx xs.length xs.length hi=xs.length))then M.pure (.tup (cutD xs lo hi))else M.fail
 | _=>M.fail
noncomputable def slD (new:Bool) (f:Env→M D) (lo hi:Env→M (Option Int)) (Γ:Env):M D:=M.bind (f Γ) fun x=>M.bind (lo Γ) fun l=>M.bind (hi Γ) fun h S=>slM new (look x S) l h S
theorem qn8 {α:Type} {f:Env→M (Option Int)} {k:Option Int→Env→M α} {σ:St} {H:Hp} {w:Wd} {Γ:Env} {S:Sto} {P:α→Sto→Wd→Hp→Prop} {Q:Option Int→Hp→Prop} (r:Rel w H σ Γ) (h:qf w H S)
   (q:Wp E w H (M.bind (f Γ) (fun d=>k d Γ) S) P) (hk:∀ b S1 w1 H1,Le w H w1 H1→Rel w1 H1 σ Γ→qf w1 H1 S1→Wp E w1 H1 (k b Γ S1) P→Q b H1):tO E f σ H Q :=
 ⟨w,Γ,S,r,h,(Wp.bind q).mono fun b S1 w1 H1 l h1 q1=>hk b S1 w1 H1 l (r.mono l) h1 q1⟩
theorem q45 {new:Bool} {lo hi:Option Expr} {fl fh:Env→M (Option Int)} {p2:Pos} (ha:PE X a (tD E f)) (hl:PO X lo (tO E fl)) (hh:PO X hi (tO E fh)):PE X (.Subscript a (.Slice lo hi none p2) pos) (tD E (slD new f fl fh)):=by
 refine PE.mono (qk2 (qn0.or qxr) ha hl hh) fun σ H Q ⟨w,Γ,S,rel,hold,q⟩=> ?_
 refine qe (k:=fun x Γ=>M.bind (fl Γ) fun l=>M.bind (fh Γ) fun h S=>slM new (look x S) l h S) rel hold q fun dx x S1 w1 H1 l1 rel1 h1 rx q1=> ?_
 refine qn8 (k:=fun l Γ=>M.bind (fh Γ) fun h S=>slM new (look dx S) l h S) rel1 h1 q1 fun l S2 w2 H2 l2 rel2 h2 q2=> ?_
 refine qn8 (k:=fun h Γ S=>slM new (look dx S) l h S) rel2 h2 q2 fun h S3 w3 H3 l3 rel3 h3 q3=> ?_
 have rx:=rx.mono (l2.trans l3)
 unfold slM at q3
 cases e1:look dx S3 <;> rw[e1]at q3 <;> first | exact False.elim q3 | skip
 case lst xs =>
   obtain ⟨p,vs,rfl,hp,hvs⟩:=qk h3 rx e1
   exact .inl ⟨p,vs,rfl,SqL.of hp,fun p' hp'=>qae h3 (qn7 hvs _ _) q3 hp'⟩
 case tup xs =>
   obtain ⟨p,vs,rfl,hp,hvs⟩:=qaa h3 rx e1
   obtain ⟨hz,q3⟩:=Wp.iteF q3
   exact .inr ⟨p,vs,rfl,SqT.of hp,by rw[← hvs.length];exact of_decide_eq_true hz,fun p' hp'=>qgd h3 (qn7 hvs _ _) q3 hp'⟩
noncomputable def qbr (X:Cx) (F:Value) (h:List D→M D):Prop:=∃ r:List V→Hp→VK→Prop,qx X F r∧∀ (E:XW) w H S ds vs Q,qf w H S→qb w H ds vs→Wp E w H (h ds S) (PV Q)→r vs H Q
variable {x:Str} {p:Pos} {e:Expr} {es:List Expr} {fs:Env→M (List D)} {k:List D→M D}
theorem qbv {id:String} (ot:qbr X (.builtin id) k) (hg:Gl X x) (hm:X.mg x=none) (hv:bootBuiltins x=some (.builtin id)) (ha:PA X (e::es) (tL E fs)) (hn:x ≠ "__name__") (hdb:(x==("__debug__":Str))=false)
   (he:starEach (e::es) X.env=(false,eval e X.env)::starEach es X.env) (hpl:(backTo pos (starEach es X.env)).any (·.1)=false):PE X (.Call (.Name x p) (e::es) [] pos) (tD E fun Γ=>M.bind (fs Γ) k):=by
 obtain ⟨r,ho,hk⟩:=ot
 refine PE.mono (qei ho hg hm hv ha hn hdb he hpl) fun σ H Q ⟨w,Γ,S,rel,hold,q⟩=> ?_
 exact qa1 (k:=fun ds _=>k ds) rel hold q fun ds vs S1 w1 H1 l1 rel1 h1 rv q1=>hk E w1 H1 S1 ds vs Q h1 rv q1
theorem qc1 {T:String} (ot:qbr X (.type T) k) (hg:Gl X x) (hm:X.mg x=none) (hv:bootBuiltins x=some (.type T)) (ha:PA X (e::es) (tL E fs)) (hn:x ≠ "__name__") (hdb:(x==("__debug__":Str))=false)
   (he:starEach (e::es) X.env=(false,eval e X.env)::starEach es X.env) (hpl:(backTo pos (starEach es X.env)).any (·.1)=false):PE X (.Call (.Name x p) (e::es) [] pos) (tD E fun Γ=>M.bind (fs Γ) k):=by
 obtain ⟨r,ho,hk⟩:=ot
 refine PE.mono (qey ho hg hm hv ha hn hdb he hpl) fun σ H Q ⟨w,Γ,S,rel,hold,q⟩=> ?_
 exact qa1 (k:=fun ds _=>k ds) rel hold q fun ds vs S1 w1 H1 l1 rel1 h1 rv q1=>hk E w1 H1 S1 ds vs Q h1 rv q1
theorem qb.nil_ {w:Wd} {H:Hp} {vs:List V} (r:qb w H [] vs):vs=[]:=r
theorem qb.one_ {w:Wd} {H:Hp} {d:D} {vs:List V} (r:qb w H [d] vs):∃ v,vs=[v]∧Rep w H d v:=by
 obtain ⟨v,u,e,h,t⟩:=r
 cases (show u=[] from t)
 exact⟨v,e,h⟩
theorem qb.two_ {w:Wd} {H:Hp} {d d':D} {vs:List V} (r:qb w H [d,d'] vs):∃ v v',vs=[v,v']∧Rep w H d v∧Rep w H d' v':=by
 obtain ⟨v,u,e,h,t⟩:=r
 obtain ⟨v',e',h'⟩:=t.one_
 subst e'
 exact⟨v,v',e,h,h'⟩
noncomputable def qy1:List D→M D
 | [d]=>fun S=>match look d S with
   | .lst xs=>M.pure (.int xs.length) S
   | .tup xs=>M.pure (.int xs.length) S
   | .dct ks _=>M.pure (.int ks.length) S
   | .str z=>(if sizeOk z.length then M.pure (.int z.length)else M.fail) S
   | _=>M.fail S
 | _=>M.fail
theorem qpn:qx X (.builtin "len") (fun xs H Q=>∃ a kvs,xs=[V.ref a]∧Rd H a (.dK kvs)∧Q (.int kvs.length) H):=by
 intro pins s σ H xs us Q I r h
 obtain ⟨a,kvs,rfl,ha,q⟩:=h
 obtain ⟨u,rfl,ru⟩:=vals1 r
 cases ru
 exact q14 I ha fun t s' I'=>⟨.int kvs.length,H,I',⟨t,rfl⟩,q⟩
theorem qy2:qbr X (.builtin "len") qy1:=by
 refine⟨_,qej.or (qpn.or qjk),fun E w H S ds vs Q h rv q=> ?_⟩
 unfold qy1 at q
 split at q
 case h_2=>exact False.elim q
 case h_1 d =>
   obtain ⟨v,rfl,r⟩:=rv.one_
   cases e1:look d S <;> rw[e1]at q <;> first | exact False.elim q | skip
   case lst xs =>
     obtain ⟨p,vs,rfl,hp,hvs⟩:=qk h r e1
     exact .inl ⟨p,vs,rfl,.inl (SqL.of hp),by rw[← hvs.length];exact now h (d:=.int _) rfl q⟩
   case tup xs =>
     obtain ⟨p,vs,rfl,hp,hvs⟩:=qaa h r e1
     exact .inl ⟨p,vs,rfl,.inr (SqT.of hp),by rw[← hvs.length];exact now h (d:=.int _) rfl q⟩
   case dct ks xs =>
     obtain ⟨p,vs,rfl,hp,hl,hvs⟩:=qb1 h r e1
     refine .inr (.inl ⟨p,_,rfl,hp,?_⟩)
     rw[List.length_zip,← hvs.length,← hl,Nat.min_self]
     exact now h (d:=.int _) rfl q
   case str z =>
     obtain ⟨hz,q⟩:=Wp.iteF q
     exact .inr (.inr ⟨z,by rw[qa8 r e1],of_decide_eq_true hz,now h (d:=.int _) rfl q⟩)
noncomputable def intsOf:List D→Option (List Int)
 | []=>some []
 | .int i::ds=>(intsOf ds).map (i::·)
 | _=>none
noncomputable def qa9:List D→Option (List Bool)
 | []=>some []
 | .bl i::ds=>(qa9 ds).map (i::·)
 | _=>none
noncomputable def strsOf:List D→Option (List Str)
 | []=>some []
 | .str i::ds=>(strsOf ds).map (i::·)
 | _=>none
theorem qa2 {w:Wd} {H:Hp}:∀ {ds:List D} {vs:List V} {ns:List Int},intsOf ds=some ns→qb w H ds vs→vs=ns.map V.int
 | [],_,_,e,r=>by cases e;exact r
 | .int i::ds,_,_,e,⟨v,u,e1,h,t⟩=>by
   simp only [intsOf,Option.map_eq_some_iff]at e
   obtain ⟨ns,e2,rfl⟩:=e
   rw[e1,qa2 e2 t,show v=.int i from h]
   rfl
 | .non::_,_,_,e,_=>by simp [intsOf]at e
 | .bl _::_,_,_,e,_=>by simp [intsOf]at e
 | .str _::_,_,_,e,_=>by simp [intsOf]at e
 | .ty _::_,_,_,e,_=>by simp [intsOf]at e
 | .at_ _::_,_,_,e,_=>by simp [intsOf]at e
 | .ref _::_,_,_,e,_=>by simp [intsOf]at e
 | .lst _::_,_,_,e,_=>by simp [intsOf]at e
 | .tup _::_,_,_,e,_=>by simp [intsOf]at e
 | .dct _ _::_,_,_,e,_=>by simp [intsOf]at e
 | .obj _ _ _::_,_,_,e,_=>by simp [intsOf]at e
theorem qe7 {w:Wd} {H:Hp}:∀ {ds:List D} {vs:List V} {ns:List Bool},qa9 ds=some ns→qb w H ds vs→vs=ns.map V.bl
 | [],_,_,e,r=>by cases e;exact r
 | .bl i::ds,_,_,e,⟨v,u,e1,h,t⟩=>by
   simp only [qa9,Option.map_eq_some_iff]at e
   obtain ⟨ns,e2,rfl⟩:=e
   rw[e1,qe7 e2 t,show v=.bl i from h]
   rfl
 | .non::_,_,_,e,_=>by simp [qa9]at e
 | .int _::_,_,_,e,_=>by simp [qa9]at e
 | .str _::_,_,_,e,_=>by simp [qa9]at e
 | .ty _::_,_,_,e,_=>by simp [qa9]at e
 | .at_ _::_,_,_,e,_=>by simp [qa9]at e
 | .ref _::_,_,_,e,_=>by simp [qa9]at e
 | .lst _::_,_,_,e,_=>by simp [qa9]at e
 | .tup _::_,_,_,e,_=>by simp [qa9]at e
 | .dct _ _::_,_,_,e,_=>by simp [qa9]at e
 | .obj _ _ _::_,_,_,e,_=>by simp [qa9]at e
theorem qg5 {w:Wd} {H:Hp}:∀ {ds:List D} {vs:List V} {ns:List Str},strsOf ds=some ns→qb w H ds vs→vs=ns.map V.str
 | [],_,_,e,r=>by cases e;exact r
 | .str i::ds,_,_,e,⟨v,u,e1,h,t⟩=>by
   simp only [strsOf,Option.map_eq_some_iff]at e
   obtain ⟨ns,e2,rfl⟩:=e
   rw[e1,qg5 e2 t,show v=.str i from h]
   rfl
 | .non::_,_,_,e,_=>by simp [strsOf]at e
 | .int _::_,_,_,e,_=>by simp [strsOf]at e
 | .bl _::_,_,_,e,_=>by simp [strsOf]at e
 | .ty _::_,_,_,e,_=>by simp [strsOf]at e
 | .at_ _::_,_,_,e,_=>by simp [strsOf]at e
 | .ref _::_,_,_,e,_=>by simp [strsOf]at e
 | .lst _::_,_,_,e,_=>by simp [strsOf]at e
 | .tup _::_,_,_,e,_=>by simp [strsOf]at e
 | .dct _ _::_,_,_,e,_=>by simp [strsOf]at e
 | .obj _ _ _::_,_,_,e,_=>by simp [strsOf]at e
noncomputable def qct (f:List D→M D):List D→M D
 | [d]=>fun S=>match look d S with
   | .lst xs=>f xs S
   | _=>M.fail S
 | _=>M.fail
theorem qg6 {w:Wd} {H:Hp} {S:Sto} {f:List D→M D} {ds:List D} {vs:List V} {Q:VK} (h:qf w H S) (rv:qb w H ds vs) (q:Wp E w H (qct f ds S) (PV Q)):∃ p us xs,vs=[.ref p]∧H p=some (.lst us)∧qb w H xs us∧Wp E w H (f xs S) (PV Q):=by
 unfold qct at q
 split at q
 case h_2=>exact False.elim q
 case h_1 d =>
   obtain ⟨v,rfl,r⟩:=rv.one_
   cases e1:look d S <;> rw[e1]at q <;> first | exact False.elim q | skip
   obtain ⟨p,vs,rfl,hp,hvs⟩:=qk h r e1
   exact⟨p,vs,_,rfl,hp,hvs,q⟩
noncomputable def qpo (xs:List D):M D:=match intsOf xs with
 | some ns=>M.pure (.int ns.sum)
 | none=>M.fail
noncomputable def qrq (xs:List D):M D:=match qa9 xs with
 | some ns=>M.pure (.bl (ns.all id))
 | none=>M.fail
noncomputable def qy3 (xs:List D):M D:=match qa9 xs with
 | some ns=>M.pure (.bl (ns.any id))
 | none=>M.fail
theorem qy4 (hc:X.calm=true):qbr X (.builtin "sum") (qct qpo):=by
 refine⟨_,qrb hc,fun E w H S ds vs Q h rv q=> ?_⟩
 obtain ⟨p,us,xs,rfl,hp,r,q⟩:=qg6 h rv q
 unfold qpo at q
 cases e:intsOf xs with
 | none=>rw[e]at q;exact False.elim q
 | some ns=>rw[e]at q;exact⟨p,ns,rfl,by rw[← qa2 e r];exact SqL.of hp,now h (d:=.int _) rfl q⟩
theorem qy5 (hc:X.calm=true):qbr X (.builtin "all") (qct qrq):=by
 refine⟨_,qq9 hc,fun E w H S ds vs Q h rv q=> ?_⟩
 obtain ⟨p,us,xs,rfl,hp,r,q⟩:=qg6 h rv q
 unfold qrq at q
 cases e:qa9 xs with
 | none=>rw[e]at q;exact False.elim q
 | some ns=>rw[e]at q;exact⟨p,ns,rfl,by rw[← qe7 e r];exact SqL.of hp,now h (d:=.bl _) rfl q⟩
theorem qy6 (hc:X.calm=true):qbr X (.builtin "any") (qct qy3):=by
 refine⟨_,qra hc,fun E w H S ds vs Q h rv q=> ?_⟩
 obtain ⟨p,us,xs,rfl,hp,r,q⟩:=qg6 h rv q
 unfold qy3 at q
 cases e:qa9 xs with
 | none=>rw[e]at q;exact False.elim q
 | some ns=>rw[e]at q;exact⟨p,ns,rfl,by rw[← qe7 e r];exact SqL.of hp,now h (d:=.bl _) rfl q⟩
noncomputable def qli:List Int→Int
 | []=>0
 | [a]=>a
 | a::r=>min a (qli r)
theorem qlj:∀ {ns:List Int},ns ≠ []→qli ns ∈ ns∧∀ a ∈ ns,qli ns≤a
 | [],h=>absurd rfl h
 | [a],_=>by simp [qli]
 | a ::b::r,_=>by
   have:=qlj (ns:=b::r) (by simp)
   rw[qli]
   · refine⟨?_,fun x hx=> ?_⟩
     · by_cases h:a≤qli (b::r)
       · rw[Int.min_eq_left h];exact List.mem_cons_self
       · rw[Int.min_eq_right (by omega)];exact List.mem_cons_of_mem _ this.1
     · rcases List.mem_cons.mp hx with rfl | hx
       · exact Int.min_le_left _ _
       · exact Int.le_trans (Int.min_le_right _ _) (this.2 x hx)
   · simp
noncomputable def minD (ds:List D):M D:=match ds with
 | [.int i,.int j]=>M.pure (.int (if j < i then j else i))
 | [d]=>fun S=>match look d S with
   | .lst xs=>match intsOf xs with
     | some ns=>(if !ns.isEmpty then M.pure (.int (qli ns))else M.fail) S
     | none=>M.fail S
   | _=>M.fail S
 | _=>M.fail
theorem qy7 (hc:X.calm=true):qbr X (.builtin "min") minD:=by
 refine⟨_,(qo5 hc).or (qpi hc),fun E w H S ds vs Q h rv q=> ?_⟩
 unfold minD at q
 split at q
 case h_1 i j =>
   obtain ⟨v,v',rfl,r1,r2⟩:=rv.two_
   exact .inl ⟨i,j,by rw[show v=.int i from r1,show v'=.int j from r2],now h (d:=.int _) rfl q⟩
 case h_2 d =>
   obtain ⟨v,rfl,r⟩:=rv.one_
   dsimp only at q
   cases e1:look d S <;> rw[e1]at q <;> first | exact False.elim q | skip
   rename_i xs
   dsimp only at q
   cases e:intsOf xs with
   | none=>rw[e]at q;exact False.elim q
   | some ns =>
     rw[e]at q
     obtain ⟨hz,q⟩:=Wp.iteF q
     obtain ⟨p,us,rfl,hp,hvs⟩:=qk h r e1
     have hne:ns ≠ []:=by rintro rfl;simp at hz
     refine .inr ⟨p,ns,rfl,by rw[← qa2 e hvs];exact SqL.of hp,by cases ns <;> first | exact absurd rfl hne | simp,fun m hm hle=> ?_⟩
     have:=qlj hne
     have:m=qli ns:=Int.le_antisymm (hle _ this.1) (this.2 _ hm)
     rw[this]
     exact now h (d:=.int _) rfl q
 case h_3=>exact False.elim q
noncomputable def maxD (ds:List D):M D:=match ds with
 | [.int i,.int j]=>M.pure (.int (if j > i then j else i))
 | _=>M.fail
theorem qy8 (hc:X.calm=true):qbr X (.builtin "max") maxD:=by
 refine⟨_,qo4 hc,fun E w H S ds vs Q h rv q=> ?_⟩
 unfold maxD at q
 split at q
 case h_1 i j =>
   obtain ⟨v,v',rfl,r1,r2⟩:=rv.two_
   exact⟨i,j,by rw[show v=.int i from r1,show v'=.int j from r2],now h (d:=.int _) rfl q⟩
 case h_2=>exact False.elim q
noncomputable def qrr (new:Bool):List D→M D
 | [d]=>fun S=>match look d S with
   | .lst xs=>alloc new (.lst xs) S
   | .tup xs=>alloc new (.lst xs) S
   | _=>M.fail S
 | _=>M.fail
theorem quf {new:Bool}:qbr X (.type "list") (qrr new):=by
 refine⟨_,qek,fun E w H S ds vs Q h rv q=> ?_⟩
 unfold qrr at q
 split at q
 case h_2=>exact False.elim q
 case h_1 d =>
   obtain ⟨v,rfl,r⟩:=rv.one_
   cases e1:look d S <;> rw[e1]at q <;> first | exact False.elim q | skip
   case lst xs =>
     obtain ⟨p,vs,rfl,hp,hvs⟩:=qk h r e1
     exact⟨p,vs,rfl,.inl (SqL.of hp),fun l hl=>qae h hvs q hl⟩
   case tup xs =>
     obtain ⟨p,vs,rfl,hp,hvs⟩:=qaa h r e1
     exact⟨p,vs,rfl,.inr (SqT.of hp),fun l hl=>qae h hvs q hl⟩
noncomputable def qy9:List D→M D
 | [d]=>fun S=>match look d S with
   | .lst xs=>M.pure (.tup xs) S
   | .tup xs=>M.pure (.tup xs) S
   | _=>M.fail S
 | _=>M.fail
theorem qza:qbr X (.type "tuple") qy9:=by
 refine⟨_,qhy,fun E w H S ds vs Q h rv q=> ?_⟩
 unfold qy9 at q
 split at q
 case h_2=>exact False.elim q
 case h_1 d =>
   obtain ⟨v,rfl,r⟩:=rv.one_
   cases e1:look d S <;> rw[e1]at q <;> first | exact False.elim q | skip
   case lst xs =>
     obtain ⟨p,vs,rfl,hp,hvs⟩:=qk h r e1
     exact⟨p,vs,rfl,.inl ⟨SqL.of hp,fun l hl=>qgd h hvs q hl⟩⟩
   case tup xs =>
     obtain ⟨p,vs,rfl,hp,hvs⟩:=qaa h r e1
     have:look d S=d:=by cases d <;> first | rfl | (unfold look at e1;dsimp only at e1;split at e1 <;> cases e1)
     rw[this]at e1
     exact⟨p,vs,rfl,.inr ⟨SqT.of hp,now h (by rw[← e1];exact r) q⟩⟩
noncomputable def intD:List D→M D
 | [.int i]=>M.pure (.int i)
 | [.bl b]=>M.pure (.int (if b then 1 else 0))
 | [.str x]=>match PySem.intText? x with
   | some n=>if decide (x.length≤640)then M.pure (.int n)else M.fail
   | none=>M.fail
 | _=>M.fail
theorem qzb:qbr X (.type "int") intD:=by
 refine⟨_,qo6.or qh0,fun E w H S ds vs Q h rv q=> ?_⟩
 unfold intD at q
 split at q
 case h_1 i=>obtain ⟨v,rfl,r⟩:=rv.one_;exact .inl (.inl ⟨i,by rw[show v=.int i from r],now h (d:=.int _) rfl q⟩)
 case h_2 b=>obtain ⟨v,rfl,r⟩:=rv.one_;exact .inl (.inr ⟨b,by rw[show v=.bl b from r],now h (d:=.int _) rfl q⟩)
 case h_3 x =>
   obtain ⟨v,rfl,r⟩:=rv.one_
   cases e1:PySem.intText? x with
   | none=>rw[e1]at q;exact False.elim q
   | some n =>
     rw[e1]at q
     obtain ⟨hz,q⟩:=Wp.iteF q
     exact .inr ⟨x,n,by rw[show v=.str x from r],e1,of_decide_eq_true hz,now h (d:=.int _) rfl q⟩
 case h_4=>exact False.elim q
noncomputable def qzc:List D→M D
 | [.int i]=>if decide (i.natAbs.log2 < 1920)then M.pure (.str (toString i))else M.fail
 | [.str x]=>M.pure (.str x)
 | _=>M.fail
theorem qzd:qbr X (.type "str") qzc:=by
 refine⟨_,qjh.or qjp,fun E w H S ds vs Q h rv q=> ?_⟩
 unfold qzc at q
 split at q
 case h_1 i =>
   obtain ⟨hz,q⟩:=Wp.iteF q
   obtain ⟨v,rfl,r⟩:=rv.one_;exact .inl ⟨i,by rw[show v=.int i from r],of_decide_eq_true hz,now h (d:=.str _) rfl q⟩
 case h_2 x=>obtain ⟨v,rfl,r⟩:=rv.one_;exact .inr ⟨x,by rw[show v=.str x from r],now h (d:=.str _) rfl q⟩
 case h_3=>exact False.elim q
end
inductive Fl where
 | nx | rt (d:D) | bk | ct
noncomputable abbrev MS:=Env→M (Fl × Env)
noncomputable def qbb (D:Ends):Fl × Env→Sto→Wd→Hp→Prop:=fun r _ w H=>match r.1 with
 | .nx=>∀ σ,Rel w H σ r.2→D.nx σ H
 | .rt d=>∀ v,Rep w H d v→D.rt v H
 | .bk=>∀ σ,Rel w H σ r.2→D.bk σ H
 | .ct=>∀ σ,Rel w H σ r.2→D.ct σ H
noncomputable def tS (E:XW) (g:MS):TS:=fun D σ H=>∃ w Γ S,Rel w H σ Γ∧qf w H S∧Wp E w H (g Γ S) (qbb D)
noncomputable def But (T:List Nat) (σ σ':St):Prop:=∀ i,i ∉ T→σ'[i]? =σ[i]?
theorem But.refl (T:List Nat) (σ:St):But T σ σ:=fun _ _=>rfl
noncomputable def tG (E:XW) (T:List Nat) (h:D→Env→M Env):TG:=fun v σ H Q=>∃ w d Γ S,Rel w H σ Γ∧qf w H S∧Rep w H d v∧Wp E w H (h d Γ S) fun Γ' _ w' H'=>∀ σ',Rel w' H' σ' Γ'→But T σ σ'→Q σ' H'
noncomputable def tGs (E:XW) (T:List Nat) (h:List D→Env→M Env):TGs:=fun vs σ H Q=>∃ w ds Γ S,Rel w H σ Γ∧qf w H S∧qb w H ds vs∧Wp E w H (h ds Γ S) fun Γ' _ w' H'=>∀ σ',Rel w' H' σ' Γ'→But T σ σ'→Q σ' H'
section
variable {X:Cx} {E:XW} {a b c e:Expr} {f g h':Env→M D} {pos:Pos} {s1 s2:MS} {st:Stmt} {rest:List Stmt}
theorem PG.mono {tg:Expr} {t t':TG} (h:PG X tg t) (k:∀ v σ H Q,t' v σ H Q→t v σ H Q):PG X tg t':=fun pins s σ H v u Q I r q=>h pins s σ H v u Q I r (k v σ H Q q)
theorem PGs.mono {tg:List Expr} {t t':TGs} (h:PGs X tg t) (k:∀ v σ H Q,t' v σ H Q→t v σ H Q):PGs X tg t':=fun pins s σ H v u Q I r q=>h pins s σ H v u Q I r (k v σ H Q q)
noncomputable def qn9:MS:=fun Γ=>M.pure (.nx,Γ)
noncomputable def seqS (g h:MS):MS:=fun Γ=>M.bind (g Γ) fun r=>match r.1 with
 | .nx=>h r.2
 | _=>M.pure r
theorem q2t:PSs X [] (tS E qn9):=PSs.mono qte fun D σ H ⟨w,Γ,S,rel,hold,q⟩=>q _ _ (Le.refl _ _) hold σ rel
theorem qm2 (h1:PS X st (tS E s1)) (h2:PSs X rest (tS E s2)):PSs X (st::rest) (tS E (seqS s1 s2)):=by
 refine PSs.mono (qef h1 h2) fun D σ H ⟨w,Γ,S,rel,hold,q⟩=> ?_
 refine⟨w,Γ,S,rel,hold,(Wp.bind q).mono fun r S1 w1 H1 l1 h1 q1=> ?_⟩
 obtain ⟨fl,Γ1⟩:=r
 cases fl with
 | nx=>exact fun σ' rel'=>⟨w1,Γ1,S1,rel',h1,q1⟩
 | rt d=>exact fun v rv=>(q1 _ _ (Le.refl _ _) h1:qbb D (.rt d,Γ1) S1 w1 H1) v rv
 | bk=>exact fun σ' rel'=>(q1 _ _ (Le.refl _ _) h1:qbb D (.bk,Γ1) S1 w1 H1) σ' rel'
 | ct=>exact fun σ' rel'=>(q1 _ _ (Le.refl _ _) h1:qbb D (.ct,Γ1) S1 w1 H1) σ' rel'
theorem qze:PS X (.Pass pos) (tS E qn9):=PS.mono qtf fun D σ H ⟨w,Γ,S,rel,hold,q⟩=>q _ _ (Le.refl _ _) hold σ rel
theorem qug:PS X (.Break pos) (tS E fun Γ=>M.pure (.bk,Γ)):=PS.mono qql fun D σ H ⟨w,Γ,S,rel,hold,q⟩=>(q _ _ (Le.refl _ _) hold:qbb D (.bk,Γ) S w H) σ rel
theorem qzf:PS X (.Continue pos) (tS E fun Γ=>M.pure (.ct,Γ)):=PS.mono qkw fun D σ H ⟨w,Γ,S,rel,hold,q⟩=>(q _ _ (Le.refl _ _) hold:qbb D (.ct,Γ) S w H) σ rel
theorem qzg (he:PE X e (tD E f)) (hs:swapsWith e none pos.line X.env=pure false):PS X (.Expr e pos) (tS E fun Γ=>M.bind (f Γ) fun _=>M.pure (.nx,Γ)):=by
 refine PS.mono (qje he hs) fun D σ H ⟨w,Γ,S,rel,hold,q⟩=> ?_
 exact qe (k:=fun _ Γ=>M.pure (Fl.nx,Γ)) rel hold q fun dx x S1 w1 H1 l1 rel1 h1 rx q1=>(q1 _ _ (Le.refl _ _) h1:qbb D (.nx,Γ) S1 w1 H1) σ rel1
theorem q2u (he:PE X e (tD E f)):PS X (.Return (some e) pos) (tS E fun Γ=>M.bind (f Γ) fun d=>M.pure (.rt d,Γ)):=by
 refine PS.mono (qqm he) fun D σ H ⟨w,Γ,S,rel,hold,q⟩=> ?_
 exact qe (k:=fun d Γ=>M.pure (Fl.rt d,Γ)) rel hold q fun dx x S1 w1 H1 l1 rel1 h1 rx q1=>(q1 _ _ (Le.refl _ _) h1:qbb D (.rt dx,Γ) S1 w1 H1) x rx
theorem qzh:PS X (.Return none pos) (tS E fun Γ=>M.pure (.rt .non,Γ)):=PS.mono qtg fun D σ H ⟨w,Γ,S,rel,hold,q⟩=>(q _ _ (Le.refl _ _) hold:qbb D (.rt .non,Γ) S w H) .non rfl
noncomputable def ifS (c:Env→M Bool) (g h:MS):MS:=fun Γ=>M.bind (c Γ) fun b=>if b=true then g Γ else h Γ
theorem q46 {fc:Env→M Bool} {x y:List Stmt} (hc:PT X c (tB E fc)) (h1:PSs X x (tS E s1)) (h2:PSs X y (tS E s2)):PS X (.If c x y pos) (tS E (ifS fc s1 s2)):=by
 refine PS.mono (qwa hc h1 h2) fun D σ H ⟨w,Γ,S,rel,hold,q⟩=> ?_
 refine qbu (k:=fun b Γ=>if b=true then s1 Γ else s2 Γ) rel hold q fun bb S1 w1 H1 l1 rel1 h1 q1=> ?_
 cases bb with
 | true=>exact⟨w1,Γ,S1,rel1,h1,q1⟩
 | false=>exact⟨w1,Γ,S1,rel1,h1,q1⟩
noncomputable def qzi (i:Nat) (d:D) (Γ:Env):M Env:=M.pure (Γ.set i (some d))
theorem qzj {i:Nat} {x:Str} (hN:X.N.Nodup) (hi:X.N[i]? =some x) (hx:Loc X.env.scope x) (hf:X.fn x=true∨X.env.scope.names.lookup x=some .local):PG X (.Name x pos) (tG E [i] (qzi i)):=by
 refine PG.mono (qth hN hi hx hf) fun v σ H Q ⟨w,d,Γ,S,rel,hold,rv,q⟩=> ?_
 exact q _ _ (Le.refl _ _) hold _ (rel.set rv) fun j hj=>List.getElem?_set_ne (fun e=>hj (by simp [e]))
noncomputable def qrs:List D→Env→M Env
 | [],Γ=>M.pure Γ
 | _,_=>M.fail
noncomputable def qjr (h:D→Env→M Env) (r:List D→Env→M Env):List D→Env→M Env
 | d::ds,Γ=>M.bind (h d Γ) fun Γ'=>r ds Γ'
 | [],_=>M.fail
theorem q2v:PGs X [] (tGs E [] qrs):=by
 refine PGs.mono qti fun vs σ H Q ⟨w,ds,Γ,S,rel,hold,rv,q⟩=> ?_
 cases ds with
 | nil=>exact⟨rv,q _ _ (Le.refl _ _) hold _ rel (But.refl _ _)⟩
 | cons d ds=>exact False.elim q
theorem qzk {es:List Expr} {T1 T2:List Nat} {hd:D→Env→M Env} {r:List D→Env→M Env} (h1:PG X e (tG E T1 hd)) (h2:PGs X es (tGs E T2 r)) (hs:(assignEach (e::es) X.env).map (·.2)=assign e X.env::(assignEach es X.env).map (·.2)):PGs X (e::es) (tGs E (T1++T2) (qjr hd r)):=by
 refine PGs.mono (qqn h1 h2 hs) fun vs σ H Q ⟨w,ds,Γ,S,rel,hold,rv,q⟩=> ?_
 cases ds with
 | nil=>exact False.elim q
 | cons d ds =>
   obtain ⟨v,u,rfl,rd,t⟩:=rv
   exact⟨v,u,rfl,w,d,Γ,S,rel,hold,rd,(Wp.bind q).mono fun Γ1 S1 w1 H1 l1 h1 q1 σ1 rel1 b1=>⟨w1,ds,Γ1,S1,rel1,h1,t.mono l1,q1.mono fun Γ2 S2 w2 H2 _ _ q2 σ2 rel2 b2=>q2 σ2 rel2 fun j hj=>(b2 j (fun z=>hj (List.mem_append_right _ z))).trans (b1 j fun z=>hj (List.mem_append_left _ z))⟩⟩
noncomputable def qrt (n:Nat) (r:List D→Env→M Env) (d:D) (Γ:Env):M Env:=fun S=>match look d S with
 | .tup ds=>if ds.length=n then r ds Γ S else .no
 | .lst ds=>if ds.length=n then r ds Γ S else .no
 | _=>.no
theorem PG.or {tg:Expr} {t t':TG} (h:PG X tg t) (h':PG X tg t'):PG X tg (fun v σ H Q=>t v σ H Q∨t' v σ H Q):=fun pins s σ H v u Q I r q=>q.elim (h pins s σ H v u Q I r) (h' pins s σ H v u Q I r)
theorem q2w {es:List Expr} {k n:Nat} {T:List Nat} {r:List D→Env→M Env} (hc:X.calm=true) (h:PGs X es (tGs E T r)) (hn:(assignEach es X.env).length=n) (hst:(assignEach es X.env).findIdx? (·.1)=none):PG X (.Tuple es k pos) (tG E T (qrt n r)):=by
 refine PG.mono (PG.or (qw3 hc h hn hst) (qt6 hc h hn hst)) fun v σ H Q ⟨w,d,Γ,S,rel,hold,rv,q⟩=> ?_
 unfold qrt at q
 cases e1:look d S <;> rw[e1]at q <;> first | exact False.elim q | skip
 case tup ds =>
   dsimp only at q
   by_cases hl:ds.length=n
   · rw[if_pos hl]at q
     obtain ⟨p,vs,rfl,hp,hvs⟩:=qaa hold rv e1
     exact .inl ⟨p,vs,rfl,SqT.of hp,by rw[← hvs.length];exact hl,w,ds,Γ,S,rel,hold,hvs,q⟩
   · rw[if_neg hl]at q;exact False.elim q
 case lst ds =>
   dsimp only at q
   by_cases hl:ds.length=n
   · rw[if_pos hl]at q
     obtain ⟨p,vs,rfl,hp,hvs⟩:=qk hold rv e1
     exact .inr ⟨p,vs,rfl,SqL.of hp,by rw[← hvs.length];exact hl,w,ds,Γ,S,rel,hold,hvs,q⟩
   · rw[if_neg hl]at q;exact False.elim q
theorem q2x {tg:Expr} {T:List Nat} {hd:D→Env→M Env} (he:PE X e (tD E f)) (hg:PG X tg (tG E T hd)) (hs:swapsWithSole [tg] e pos.line X.env=pure false) (hw:swappedStores [tg] e X.env=pure none) (h1:(assignEach [tg] X.env).map (·.2)=[assign tg X.env]):PS X (.Assign [tg] e pos) (tS E fun Γ=>M.bind (f Γ) fun d=>M.bind (hd d Γ) fun Γ'=>M.pure (.nx,Γ')):=by
 refine PS.mono (qw5 he hg hs hw h1) fun D σ H ⟨w,Γ,S,rel,hold,q⟩=> ?_
 refine qe (k:=fun d Γ=>M.bind (hd d Γ) fun Γ'=>M.pure (Fl.nx,Γ')) rel hold q fun dx x S1 w1 H1 l1 rel1 h1 rx q1=> ?_
 exact⟨w1,dx,Γ,S1,rel1,h1,rx,(Wp.bind q1).mono fun Γ2 S2 w2 H2 l2 h2 q2 σ' rel' _=>(q2 _ _ (Le.refl _ _) h2:qbb D (.nx,Γ2) S2 w2 H2) σ' rel'⟩
theorem qru {i:Nat} {x:Str} {pos':Pos} (hN:X.N.Nodup) (hi:X.N[i]? =some x) (hx:Loc X.env.scope x) (he:PE X e (tD E f)) (hs:swapsWith e (some (.Name x pos')) pos.line X.env=pure false) (hf:X.fn x=true∨X.env.scope.names.lookup x=some .local) :
   PS X (.Assign [.Name x pos'] e pos) (tS E fun Γ=>M.bind (f Γ) fun d=>M.pure (.nx,Γ.set i (some d))):=by
 refine PS.mono (qmh hN hi hx he hs hf) fun D σ H ⟨w,Γ,S,rel,hold,q⟩=> ?_
 exact qe (k:=fun d Γ=>M.pure (Fl.nx,Γ.set i (some d))) rel hold q fun dx x S1 w1 H1 l1 rel1 h1 rx q1=>(q1 _ _ (Le.refl _ _) h1:qbb D (.nx,_) S1 w1 H1) _ (rel1.set rx)
noncomputable def q2y (i j:Nat) (fs:Env→M (List D)):MS:=fun Γ=>M.bind (fs Γ) fun ds=>match ds with
 | [x,y]=>M.pure (.nx,(Γ.set i (some x)).set j (some y))
 | _=>M.fail
theorem q2z {i j:Nat} {x y:Str} {fs:Env→M (List D)} {px py pt:Pos} {kt k2:Nat} {pt2:Pos} (hc:X.calm=true) (hN:X.N.Nodup) (hi:X.N[i]? =some x) (hj:X.N[j]? =some y) (hij:i ≠ j)
   (hx:X.env.scope.names.lookup x=some .local) (hy:X.env.scope.names.lookup y=some .local) (ha:PA X [a,b] (tL E fs))
   (hw:swappedStores [.Tuple [.Name x px,.Name y py] kt pt] (.Tuple [a,b] k2 pt2) X.env=pure (some [x,y]))
   (hs:swapsWithSole [.Tuple [.Name x px,.Name y py] kt pt] (.Tuple [a,b] k2 pt2) pos.line X.env=pure false) :
   PS X (.Assign [.Tuple [.Name x px,.Name y py] kt pt] (.Tuple [a,b] k2 pt2) pos) (tS E (q2y i j fs)):=by
 refine PS.mono (qw6 hc hN hi hj hij hx hy ha hw hs) fun D σ H ⟨w,Γ,S,rel,hold,q⟩=> ?_
 refine qa1 (k:=fun ds Γ=>match ds with | [x,y]=>M.pure (Fl.nx,(Γ.set i (some x)).set j (some y)) | _=>M.fail) rel hold q fun ds vs S1 w1 H1 l1 rel1 h1 rv q1=> ?_
 match ds,rv,q1 with
 | [],_,q1=>exact False.elim q1
 | [_],_,q1=>exact False.elim q1
 | _::_::_::_,_,q1=>exact False.elim q1
 | [d,d'],rv,q1 =>
   obtain ⟨v,v',rfl,r1,r2⟩:=rv.two_
   exact⟨v,v',rfl,(q1 _ _ (Le.refl _ _) h1:qbb D (.nx,_) S1 w1 H1) _ ((rel1.set r1).set r2)⟩
noncomputable def qbs (ks:List Key) (k:Key):List Key:=if qf8 ks k then ks else ks++[k]
noncomputable def qfu {α:Type} (k:Key) (v:α):List Key→List α→List α
 | j::ks,x::xs=>(if j=k then v else x)::qfu k v ks xs
 | _,_=>[]
noncomputable def qbc {α:Type} (ks:List Key) (xs:List α) (k:Key) (v:α):List α:=if qf8 ks k then qfu k v ks xs else xs++[v]
theorem qe8 {α:Type} (k:Key) (v:α):∀ {ks:List Key} {xs:List α},ks.length=xs.length→(qfu k v ks xs).length=ks.length
 | [],[],_=>rfl
 | [],_::_,h=>by simp at h
 | _::_,[],h=>by simp at h
 | j::ks,x::xs,h=>by simp [qfu,qe8 k v (ks:=ks) (xs:=xs) (by simpa using h)]
theorem qpp {α:Type} (k:Key) (v:α) {ks:List Key} {xs:List α} (h:ks.length=xs.length):(qbs ks k).length=(qbc ks xs k v).length:=by
 unfold qbs qbc
 cases qf8 ks k with
 | true=>simp [qe8 k v h]
 | false=>simp [h]
theorem qiy (k:Key) (v:V):∀ {ks:List Key} {vs:List V},ks.length=vs.length→((ks.zip vs).map fun kv=>if kv.1=k then (kv.1,v)else kv)=ks.zip (qfu k v ks vs)
 | [],[],_=>rfl
 | [],_::_,h=>by simp at h
 | _::_,[],h=>by simp at h
 | j::ks,x::xs,h=>by
   rw[List.zip_cons_cons,List.map_cons,qiy k v (by simpa using h),qfu,List.zip_cons_cons]
   by_cases e:j=k <;> simp [e]
theorem qoa (k:Key):∀ {ks:List Key} {vs:List V},ks.length=vs.length→((ks.zip vs).any fun kv=>decide (kv.1=k))=qf8 ks k
 | [],[],_=>rfl
 | [],_::_,h=>by simp at h
 | _::_,[],h=>by simp at h
 | j::ks,x::xs,h=>by
   have:=qoa k (ks:=ks) (vs:=xs) (by simpa using h)
   unfold qf8 at this ⊢
   rw[List.zip_cons_cons,List.any_cons,List.any_cons,this]
theorem qlk (k:Key) (v:V) {ks:List Key} {vs:List V} (h:ks.length=vs.length):putK (ks.zip vs) k v=(qbs ks k).zip (qbc ks vs k v):=by
 unfold putK qbs qbc
 rw[qoa k h]
 cases qf8 ks k with
 | true=>rw[if_pos rfl,if_pos rfl,if_pos rfl];exact qiy k v h
 | false =>
   rw[if_neg Bool.false_ne_true,if_neg Bool.false_ne_true,if_neg Bool.false_ne_true,List.zip_append h]
   rfl
theorem qiz {w:Wd} {H:Hp} {k:Key} {d:D} {v:V} (r:Rep w H d v):∀ {ks:List Key} {xs:List D} {vs:List V},qb w H xs vs→qb w H (qfu k d ks xs) (qfu k v ks vs)
 | [],xs,vs,_=>by cases xs <;> cases vs <;> rfl
 | _::_,[],vs,h=>by cases (show vs=[] from h);rfl
 | j::ks,x::xs,vs,⟨u,s,e,h,t⟩=>by
   subst e
   refine⟨_,_,rfl,?_,qiz r t⟩
   by_cases e:j=k
   · simp only [e,if_true];exact r
   · simp only [e,if_false];exact h
theorem qi0 {w:Wd} {H:Hp} {k:Key} {d:D} {v:V} (r:Rep w H d v) {ks:List Key} {xs:List D} {vs:List V} (h:qb w H xs vs):qb w H (qbc ks xs k d) (qbc ks vs k v):=by
 unfold qbc
 cases qf8 ks k with
 | true=>exact qiz r h
 | false=>exact h.append (qb.one r)
noncomputable def setM (o i v:D):M Unit:=fun S=>match o with
 | .ref l=>match S[l]? with
   | some (.lst xs)=>match i with
     | .int k=>match ixN xs.length k with
       | some j=>.ok () (S.set l (.lst (xs.set j v)))
       | none=>.no
     | _=>.no
   | some (.dct ks xs)=>match keyOf i with
     | some k=>if ks.length < sizeLine then .ok () (S.set l (.dct (qbs ks k) (qbc ks xs k v)))else .no
     | none=>.no
   | _=>.no
 | _=>.no
theorem qhw.or {t t':qmg} (h:qhw X t) (h':qhw X t'):qhw X (fun o i v H Q=>t o i v H Q∨t' o i v H Q):=fun pins s σ H o i v ov iv u Q I r1 r2 r3 q=>q.elim (h pins s σ H o i v ov iv u Q I r1 r2 r3) (h' pins s σ H o i v ov iv u Q I r1 r2 r3)
noncomputable def qob:qmg:=fun o i v H Q=>∃ a H',o=.ref a∧qrc H a i v H'∧Q H'
theorem qoc (hu:X.A.units+1 < cLine):qhw X qob:=by
 intro pins s σ H o i v ov iv u Q I r1 r2 r3 h
 obtain ⟨a,H',rfl,g,q⟩:=h
 cases (show ov=Value.ref a from r1)
 exact qph hu I g r2 r3 fun s' I'=>⟨H',I',q⟩
theorem qe9 {w:Wd} {H:Hp} {d:D} {v:V} {k:Key} (r:Rep w H d v) (e:keyOf d=some k):v=kV k:=by
 cases d <;> simp only [keyOf]at e <;> first | (cases e;done) | (cases e;exact r)
theorem qrv {w:Wd} {H:Hp} {S:Sto} {o i v:D} {ov iv vv:V} {P:Unit→Sto→Wd→Hp→Prop} {Q:Hp→Prop} (h:qf w H S) (ro:Rep w H o ov) (ri:Rep w H i iv) (rv:Rep w H v vv) (q:Wp E w H (setM o i v S) P)
   (hk:∀ S' H',Le w H w H'→qf w H' S'→P () S' w H'→Q H'):qwc ov iv vv H Q∨qob ov iv vv H Q:=by
 unfold setM at q
 cases o <;> first | exact False.elim q | skip
 rename_i l
 dsimp only at q
 obtain ⟨a,ea,rfl⟩:=ro
 cases e:S[l]? with
 | none=>rw[e]at q;exact False.elim q
 | some c =>
   rw[e]at q
   have ce:=h.cell l a c ea e
   cases c with
   | gone=>exact False.elim q
   | obj _ _ _=>exact False.elim q
   | lst xs =>
     dsimp only at q
     cases i <;> first | exact False.elim q | skip
     rename_i k
     dsimp only at q
     cases e2:ixN xs.length k with
     | none=>rw[e2]at q;exact False.elim q
     | some j =>
       rw[e2]at q
       obtain ⟨nz,vs,ha,hvs⟩:=ce
       have hw:qf w (upd H a (.lst (vs.set j vv))) (S.set l (.lst (xs.set j v))):=qdv h ea nz ⟨nz,_,qg,(hvs.set rv j).mono (qaz nz)⟩
       exact .inl ⟨a,vs,k,j,rfl,ri,ha,by rw[← hvs.length];exact e2,hk _ _ (qaz nz) hw (q _ _ (qaz nz) hw)⟩
   | dct ks xs =>
     dsimp only at q
     cases e2:keyOf i with
     | none=>rw[e2]at q;exact False.elim q
     | some k =>
       rw[e2]at q
       dsimp only at q
       by_cases hz:ks.length < sizeLine
       · rw[if_pos hz]at q
         obtain ⟨nz,vs,ha,hl,hvs⟩:=ce
         have hl2:ks.length=vs.length:=by rw[hl,hvs.length]
         have hw:qf w (upd H a (.dK ((qbs ks k).zip (qbc ks vs k vv)))) (S.set l (.dct (qbs ks k) (qbc ks xs k v))):=qdv h ea nz ⟨nz,_,qg,qpp k v hl,(qi0 rv hvs).mono (qaz nz)⟩
         refine .inr ⟨a,_,rfl,?_,hk _ _ (qaz nz) hw (q _ _ (qaz nz) hw)⟩
         rw[← qlk k vv hl2,qe9 ri e2]
         exact qrc.k ha (by rw[List.length_zip,← hl2,Nat.min_self];exact hz)
       · rw[if_neg hz]at q;exact False.elim q
noncomputable def qzl (f g:Env→M D) (d:D) (Γ:Env):M Env:=M.bind (f Γ) fun o=>M.bind (g Γ) fun i=>M.bind (setM o i d) fun _=>M.pure Γ
theorem q20 {o i:Expr} (hu:X.A.units+1 < cLine) (ho:PE X o (tD E f)) (hi:PE X i (tD E g)) (ha:∀ v,assign (.Subscript o i pos) X.env v=(do
     let ov ← holding [v] (eval o X.env)
     let iv ← holding [v,ov] (eval i X.env)
     standAt pos
     holding [v,ov,iv] (setItem ov iv v)
     release [v,ov,iv] [])):PG X (.Subscript o i pos) (tG E [] (qzl f g)):=by
 refine PG.mono (qw4 ho hi (qhw.or set_list (qoc hu)) ha) fun v σ H Q ⟨w,d,Γ,S,rel,hold,rv,q⟩=> ?_
 refine qe (k:=fun o Γ=>M.bind (g Γ) fun i=>M.bind (setM o i d) fun _=>M.pure Γ) rel hold q fun dx x S1 w1 H1 l1 rel1 h1 rx q1=> ?_
 refine qe (k:=fun i Γ=>M.bind (setM dx i d) fun _=>M.pure Γ) rel1 h1 q1 fun dy y S2 w2 H2 l2 rel2 h2 ry q2=> ?_
 exact qrv h2 (rx.mono l2) ry (rv.mono (l1.trans l2)) (Wp.bind q2) fun S3 H3 l3 h3 q3=>q3 _ _ (Le.refl _ _) h3 _ (rel2.mono l3) (But.refl _ _)
noncomputable def ipD (op:Operator):D→D→M D:=match op with
 | .Add=>fun x y=>match x,y with
   | .int i,.int j=>M.pure (.int (i+j))
   | _,_=>M.fail
 | .Sub=>qye
 | _=>fun _ _=>M.fail
noncomputable def IpT (X:Cx) (op:Operator) (h:D→D→M D):Prop:=∃ r:TIp,PIp X op r∧∀ (E:XW) w H S dx dy x y Q,qf w H S→Rep w H dx x→Rep w H dy y→Wp E w H (h dx dy S) (PV Q)→r x y H Q
theorem qc2 {op:Operator}:IpT X op (fun _ _=>M.fail):=⟨fun _ _ _ _=>False,fun _ _ _ _ _ _ _ _ _ _ _ _ h=>False.elim h,fun _ _ _ _ _ _ _ _ _ _ _ _ q=>False.elim q⟩
theorem quh:IpT X .Add (ipD .Add):=by
 refine⟨_,qw8,fun E w H S dx dy x y Q h rx ry q=> ?_⟩
 cases dx <;> first | exact False.elim q | skip
 cases dy <;> first | exact False.elim q | skip
 exact⟨_,_,rx,ry,now h (d:=.int _) rfl q⟩
theorem qui:IpT X .Sub (ipD .Sub):=by
 refine⟨_,qw9,fun E w H S dx dy x y Q h rx ry q=> ?_⟩
 cases dx <;> first | exact False.elim q | skip
 cases dy <;> first | exact False.elim q | skip
 exact⟨_,_,rx,ry,now h (d:=.int _) rfl q⟩
theorem qwi:∀ op:Operator,IpT X op (ipD op)
 | .Add=>quh
 | .Sub=>qui
 | .Mult=>qc2
 | .FloorDiv=>qc2
 | .Mod=>qc2
 | .Pow=>qc2
 | .MatMult=>qc2
 | .Div=>qc2
 | .LShift=>qc2
 | .RShift=>qc2
 | .BitOr=>qc2
 | .BitXor=>qc2
 | .BitAnd=>qc2
noncomputable def quj (op:Operator) (i:Nat) (f:Env→M D):MS:=fun Γ=>M.bind (qdz i Γ) fun x=>M.bind (f Γ) fun y=>M.bind (ipD op x y) fun z=>M.pure (.nx,Γ.set i (some z))
theorem q21 {op:Operator} {i:Nat} {x:Str} {pos':Pos} (hN:X.N.Nodup) (hi:X.N[i]? =some x) (hx:Loc X.env.scope x) (he:PE X e (tD E f)) (hf:X.fn x=true∨X.env.scope.names.lookup x=some .local):PS X (.AugAssign (.Name x pos') op e pos) (tS E (quj op i f)):=by
 obtain ⟨r,ho,hk⟩:=qwi (X:=X) op
 refine PS.mono (qw7 hN hi hx he ho hf) fun D σ H ⟨w,Γ,S,rel,hold,q⟩=> ?_
 unfold quj qdz at q
 cases e1:Γ[i]? with
 | none=>rw[e1]at q;exact False.elim q
 | some o =>
   cases o with
   | none=>rw[e1]at q;exact False.elim q
   | some d =>
     rw[e1]at q
     obtain ⟨v,ev,rv⟩:=rel.at_ i d e1
     refine⟨v,ev,qe (k:=fun y Γ=>M.bind (ipD op d y) fun z=>M.pure (Fl.nx,Γ.set i (some z))) rel hold q fun dx x S1 w1 H1 l1 rel1 h1 rx q1=> ?_⟩
     exact hk E w1 H1 S1 d dx v x _ h1 (rv.mono l1) rx ((Wp.bind q1).mono fun z S2 w2 H2 l2 h2 q2 u ru=>(q2 _ _ (Le.refl _ _) h2:qbb D (.nx,_) S2 w2 H2) _ ((rel1.mono l2).set ru))
theorem qkx.or {t t':V→V→Hp→VK→Prop} (h:qkx X t) (h':qkx X t'):qkx X (fun o i H Q=>t o i H Q∨t' o i H Q):=fun pins s σ H o i ov iv Q I r1 r2 q=>q.elim (h pins s σ H o i ov iv Q I r1 r2) (h' pins s σ H o i ov iv Q I r1 r2)
theorem quk (hu:X.A.units+1 < cLine):qkx X (fun x y H Q=>∃ a v,x=.ref a∧qgx H a y (some v)∧Q v H):=by
 intro pins s σ H o i ov iv Q I r1 r2 h
 obtain ⟨a,v,rfl,g,q⟩:=h
 cases (show ov=Value.ref a from r1)
 exact qit hu I g r2 fun w' s' I' rw'=>⟨v,H,I',rw',q⟩
noncomputable def ixW (o i:D):M D:=match o with
 | .ref l=>fun S=>ixM (look (.ref l) S) i S
 | _=>M.fail
noncomputable def augIx (op:Operator) (f g h:Env→M D):MS:=fun Γ=>M.bind (f Γ) fun o=>M.bind (g Γ) fun i=>M.bind (ixW o i) fun x=>M.bind (h Γ) fun y=>M.bind (ipD op x y) fun z=>M.bind (setM o i z) fun _=>M.pure (.nx,Γ)
theorem qzm {w:Wd} {H:Hp} {S:Sto} {o i:D} {ov iv:V} {Q:VK} (h:qf w H S) (ro:Rep w H o ov) (ri:Rep w H i iv) (q:Wp E w H (ixW o i S) (PV Q)):qxs X.K ov iv H Q∨∃ a v,ov=.ref a∧qgx H a iv (some v)∧Q v H:=by
 unfold ixW at q
 cases o <;> first | exact False.elim q | skip
 rename_i l
 dsimp only at q
 unfold ixM at q
 cases e1:look (.ref l) S <;> rw[e1]at q <;> first | exact False.elim q | skip
 case lst xs =>
   cases i <;> first | exact False.elim q | skip
   rename_i i
   dsimp only at q
   cases e:atI xs i with
   | none=>rw[e]at q;exact False.elim q
   | some d =>
     rw[e]at q
     obtain ⟨p,vs,rfl,hp,hvs⟩:=qk h ro e1
     obtain ⟨v,e',rv⟩:=qjq hvs e
     exact .inl ⟨p,vs,i,v,rfl,ri,SqL.of hp,e',now h rv q⟩
 case tup xs =>
   unfold look at e1
   dsimp only at e1
   split at e1 <;> cases e1
 case str z =>
   unfold look at e1
   dsimp only at e1
   split at e1 <;> cases e1
 case dct ks ds =>
   dsimp only at q
   cases e:keyOf i with
   | none=>rw[e]at q;exact False.elim q
   | some j =>
     rw[e]at q
     dsimp only at q
     cases e2:qlh ks ds j with
     | none=>rw[e2]at q;exact False.elim q
     | some d =>
       rw[e2]at q
       obtain ⟨p,vs,rfl,hp,hl,hvs⟩:=qb1 h ro e1
       obtain ⟨v,e',rv⟩:=qg4 hvs e2
       refine .inr ⟨p,v,rfl,?_,now h rv q⟩
       rw[qe9 ri e,← e']
       exact qjo hp
theorem qul {op:Operator} {o i:Expr} {tpos:Pos} (hu:X.A.units+1 < cLine) (ho:PE X o (tD E f)) (hi:PE X i (tD E g)) (he:PE X e (tD E h'))
   (ha:∀ ov iv new,augStore i ov iv new=(do holding [new,ov,iv] (setItem ov iv new);release [new,ov,iv] [];pure .next)):PS X (.AugAssign (.Subscript o i tpos) op e pos) (tS E (augIx op f g h')):=by
 obtain ⟨r,hop,hk⟩:=qwi (X:=X) op
 refine PS.mono (qtj ho hi (qkx.or qq3 (quk hu)) he hop (qhw.or set_list (qoc hu)) ha) fun D σ H ⟨w,Γ,S,rel,hold,q⟩=> ?_
 refine qe (k:=fun o Γ=>M.bind (g Γ) fun i=>M.bind (ixW o i) fun x=>M.bind (h' Γ) fun y=>M.bind (ipD op x y) fun z=>M.bind (setM o i z) fun _=>M.pure (Fl.nx,Γ)) rel hold q fun dx x S1 w1 H1 l1 rel1 h1 rx q1=> ?_
 refine qe (k:=fun i Γ=>M.bind (ixW dx i) fun x=>M.bind (h' Γ) fun y=>M.bind (ipD op x y) fun z=>M.bind (setM dx i z) fun _=>M.pure (Fl.nx,Γ)) rel1 h1 q1 fun dy y S2 w2 H2 l2 rel2 h2 ry q2=> ?_
 refine qzm (X:=X) (E:=E) h2 (rx.mono l2) ry ((Wp.bind q2).mono fun dz S3 w3 H3 l3 h3 q3 z rz=> ?_)
 refine qe (k:=fun y Γ=>M.bind (ipD op dz y) fun z=>M.bind (setM dx dy z) fun _=>M.pure (Fl.nx,Γ)) (rel2.mono l3) h3 q3 fun du u S4 w4 H4 l4 rel4 h4 ru q4=> ?_
 refine hk E w4 H4 S4 dz du z u _ h4 (rz.mono l4) ru ((Wp.bind q4).mono fun dn S5 w5 H5 l5 h5 q5 n rn=> ?_)
 exact qrv h5 (rx.mono (l2.trans (l3.trans (l4.trans l5)))) (ry.mono (l3.trans (l4.trans l5))) rn (Wp.bind q5) fun S6 H6 l6 h6 q6=>(q6 _ _ (Le.refl _ _) h6:qbb D (.nx,Γ) S6 w5 H6) σ ((rel4.mono l5).mono l6)
end
noncomputable abbrev Src:=List (Nat × Cell)
noncomputable def qaj (src:Src) (S:Sto):Prop:=∀ p ∈ src,S[p.1]? =some p.2
noncomputable def guard (src:Src):M Unit:=fun S=> @ite _ (qaj src S) (Classical.propDecidable _) (.ok () S) .no
theorem qrw {src:Src} {S:Sto} (h:qaj src S):guard src S=.ok () S:=by unfold guard;exact if_pos h
theorem qan {E:XW} {α:Type} {w:Wd} {H:Hp} {src:Src} {S:Sto} {k:M α} {P:α→Sto→Wd→Hp→Prop} (q:Wp E w H (M.bind (guard src) (fun _=>k) S) P):qaj src S∧Wp E w H (k S) P:=by
 unfold M.bind guard at q
 by_cases h:qaj src S
 · rw[if_pos h]at q;exact⟨h,q⟩
 · rw[if_neg h]at q;exact False.elim q
structure Walks (J:It) (w:Wd) (H:Hp) (src:Src) (items:List D):Prop where
 go:∀ w' H' S' (i:Nat),Le w H w' H'→qf w' H' S'→qaj src S'→i < items.length→J.go i H'
 stop:∀ w' H' S',Le w H w' H'→qf w' H' S'→qaj src S'→J.stop items.length H'
 yld:∀ w' H' S' (i:Nat) x H'',Le w H w' H'→qf w' H' S'→qaj src S'→i < items.length→J.yld i H' x H''→∃ w'' d,items[i]? =some d∧Le w' H' w'' H''∧qf w'' H'' S'∧Rep w'' H'' d x
noncomputable abbrev MI:=Env→M (List D × Src)
noncomputable def tI (E:XW) (f:MI):TI:=fun σ H R=>∃ w Γ S,Rel w H σ Γ∧qf w H S∧Wp E w H (f Γ S) fun r _ w' H'=>∀ J,Walks J w' H' r.2 r.1→R J H'
section
variable {X:Cx} {E:XW} {a b c e tg it:Expr} {f g h':Env→M D} {pos:Pos} {s1 s2:MS} {st:Stmt} {rest:List Stmt} {fi:MI}
theorem PI.mono {t t':TI} (h:PI X tg it t) (k:∀ σ H R,t' σ H R→t σ H R):PI X tg it t':=fun pins s σ H R I q=>h pins s σ H R I (k σ H R q)
theorem PI.or {t t':TI} (h:PI X tg it t) (h':PI X tg it t'):PI X tg it (fun σ H R=>t σ H R∨t' σ H R):=fun pins s σ H R I q=>q.elim (h pins s σ H R I) (h' pins s σ H R I)
noncomputable def qak (d:D):M (List D × Src):=fun S=>match d with
 | .ref l=>match S[l]? with
   | some (.lst xs)=>.ok (xs,[(l,.lst xs)]) S
   | _=>.no
 | .lst xs=>.ok (xs,[]) S
 | .tup xs=>.ok (xs,[]) S
 | _=>.no
theorem qpq {K:PySem.W.Frag} {w:Wd} {H:Hp} {src:Src} {a:Addr} {items:List D} (h:∀ w' H' S',Le w H w' H'→qf w' H' S'→qaj src S'→∃ vs,H' a=some (.lst vs)∧qb w' H' items vs):Walks (Itl K a) w H src items:=by
 refine⟨fun w' H' S' i l hh hs hi=> ?_,fun w' H' S' l hh hs=> ?_,fun w' H' S' i x H'' l hh hs hi y=> ?_⟩
 · obtain ⟨vs,e,r⟩:=h w' H' S' l hh hs
   have hi2:i < vs.length:=by rw[← r.length];exact hi
   exact⟨vs,vs[i],SqL.of e,List.getElem?_eq_getElem hi2⟩
 · obtain ⟨vs,e,r⟩:=h w' H' S' l hh hs
   exact⟨vs,SqL.of e,by rw[r.length];exact Nat.le_refl _⟩
 · obtain ⟨vs,e,r⟩:=h w' H' S' l hh hs
   obtain ⟨rfl,y⟩:=y
   obtain ⟨d,e1,e2⟩:=r.get' (y vs (SqL.of e))
   exact⟨w',d,e1,Le.refl _ _,hh,e2⟩
theorem qpr {K:PySem.W.Frag} {w:Wd} {H:Hp} {src:Src} {a:Addr} {items:List D} (h:∀ w' H' S',Le w H w' H'→qf w' H' S'→qaj src S'→∃ vs,H' a=some (.tup vs)∧qb w' H' items vs):Walks (Itt K a) w H src items:=by
 refine⟨fun w' H' S' i l hh hs hi=> ?_,fun w' H' S' l hh hs=> ?_,fun w' H' S' i x H'' l hh hs hi y=> ?_⟩
 · obtain ⟨vs,e,r⟩:=h w' H' S' l hh hs
   have hi2:i < vs.length:=by rw[← r.length];exact hi
   exact⟨vs,vs[i],SqT.of e,List.getElem?_eq_getElem hi2⟩
 · obtain ⟨vs,e,r⟩:=h w' H' S' l hh hs
   exact⟨vs,SqT.of e,by rw[r.length];exact Nat.le_refl _⟩
 · obtain ⟨vs,e,r⟩:=h w' H' S' l hh hs
   obtain ⟨rfl,y⟩:=y
   obtain ⟨d,e1,e2⟩:=r.get' (y vs (SqT.of e))
   exact⟨w',d,e1,Le.refl _ _,hh,e2⟩
theorem qjs {w:Wd} {H:Hp} {S:Sto} {d:D} {v:V} {items:List D} {src:Src} {S':Sto} (h:qf w H S) (r:Rep w H d v) (e:qak d S=.ok (items,src) S') :
   S'=S∧((∃ a vs,v=.ref a∧H a=some (.lst vs)∧∀ w' H' S',Le w H w' H'→qf w' H' S'→qaj src S'→∃ vs,H' a=some (.lst vs)∧qb w' H' items vs) ∨
    (∃ a vs,v=.ref a∧H a=some (.tup vs)∧∀ w' H' S',Le w H w' H'→qf w' H' S'→qaj src S'→∃ vs,H' a=some (.tup vs)∧qb w' H' items vs)):=by
 unfold qak at e
 cases d <;> first | (cases e;done) | skip
 case ref l =>
   dsimp only at e
   cases q:S[l]? with
   | none=>rw[q]at e;cases e
   | some c =>
     rw[q]at e
     cases c <;> cases e
     obtain ⟨a,ea,rfl⟩:=r
     obtain ⟨_,vs,k1,_⟩:=h.cell l a _ ea q
     refine⟨rfl,.inl ⟨a,vs,rfl,k1,fun w' H' S' l' h' s'=> ?_⟩⟩
     obtain ⟨_,vs',k1',k2'⟩:=h'.cell l a _ (l'.at_ ea) (s' (l,.lst items) (by simp))
     exact⟨vs',k1',k2'⟩
 case lst xs =>
   cases e
   obtain ⟨a,vs,rfl,z,k1,k2⟩:=r
   exact⟨rfl,.inl ⟨a,vs,rfl,k1,fun w' H' S' l' _ _=>⟨vs,l'.lst z k1,k2.mono l'⟩⟩⟩
 case tup xs =>
   cases e
   obtain ⟨a,vs,rfl,z,k1,k2⟩:=r
   exact⟨rfl,.inr ⟨a,vs,rfl,k1,fun w' H' S' l' _ _=>⟨vs,l'.tup z k1,k2.mono l'⟩⟩⟩
theorem q22 (he:PE X it (tD E f)):PI X tg it (tI E fun Γ=>M.bind (f Γ) qak):=by
 refine PI.mono (PI.or (qtk he) (qxb he)) fun σ H R ⟨w,Γ,S,rel,hold,q⟩=> ?_
 have q:=Wp.bind q
 cases e0:f Γ S with
 | no=>rw[e0]at q;exact False.elim q
 | err x S1=>rw[e0]at q;exact .inl ⟨w,Γ,S,rel,hold,by rw[e0];exact q⟩
 | ok d S1 =>
   rw[e0]at q
   have q:∀ w' H',Le w H w' H'→qf w' H' S1→Wp E w' H' (qak d S1) _:=q
   cases e1:qak d S1 with
   | no =>
     refine .inl ⟨w,Γ,S,rel,hold,?_⟩
     rw[e0]
     intro w' H' l' h' v rv
     have:=q w' H' l' h'
     rw[e1]at this
     exact False.elim this
   | err x S2 =>
     unfold qak at e1
     cases d <;> dsimp only at e1 <;> first | (cases e1;done) | (split at e1 <;> cases e1)
   | ok r S2 =>
     obtain ⟨items,src⟩:=r
     by_cases ht:∃ xs,d=.tup xs
     · refine .inr ⟨w,Γ,S,rel,hold,?_⟩
       rw[e0]
       intro w' H' l' h' v rv
       have q2:=q w' H' l' h'
       rw[e1]at q2
       obtain ⟨rfl,k | k⟩:=qjs h' rv e1
       · obtain ⟨xs,rfl⟩:=ht
         obtain ⟨a,vs,rfl,k1,_⟩:=k
         obtain ⟨a',vs',e2,_,k2,_⟩:=rv
         cases e2
         rw[k1]at k2;cases k2
       · obtain ⟨a,vs,rfl,k1,k2⟩:=k
         exact⟨a,rfl,⟨vs,SqT.of k1⟩,q2 _ _ (Le.refl _ _) h' _ (qpr k2)⟩
     · refine .inl ⟨w,Γ,S,rel,hold,?_⟩
       rw[e0]
       intro w' H' l' h' v rv
       have q2:=q w' H' l' h'
       rw[e1]at q2
       obtain ⟨rfl,k | k⟩:=qjs h' rv e1
       · obtain ⟨a,vs,rfl,k1,k2⟩:=k
         exact⟨a,rfl,⟨vs,SqL.of k1⟩,q2 _ _ (Le.refl _ _) h' _ (qpq k2)⟩
       · exfalso
         obtain ⟨a,vs,rfl,k1,_⟩:=k
         clear q2 q e0
         cases d <;> first | (simp only [Rep]at rv;cases rv;done) | (unfold qak at e1;cases e1;done) | skip
         case ref l =>
           unfold qak at e1
           dsimp only at e1
           cases q':S2[l]? with
           | none=>rw[q']at e1;cases e1
           | some c =>
             rw[q']at e1
             cases c <;> cases e1
             obtain ⟨a',ea,e2⟩:=rv
             cases e2
             obtain ⟨_,vs',k2,_⟩:=h'.cell l a _ ea q'
             rw[k1]at k2;cases k2
         case lst =>
           obtain ⟨a',vs',e2,_,k2,_⟩:=rv
           cases e2
           rw[k1]at k2;cases k2
         case tup=>exact ht ⟨_,rfl⟩
end
section
variable {X:Cx} {E:XW} {a b c e tg it:Expr} {f g h':Env→M D} {pos p:Pos} {s1 s2:MS} {st:Stmt} {rest:List Stmt} {fi:MI} {fs:Env→M (List D)}
noncomputable def qh1 (lo:Int) (n:Nat):List D:=(List.range n).map fun k:Nat=>D.int (lo+k)
noncomputable def qfv (i:Int):Bool:=decide (-(2 ^ 62)≤i) && decide (i < 2 ^ 62)
noncomputable def qd0 (ds:List D):M (List D × Src):=match ds with
 | [.int j]=>if qfv j then M.pure (qh1 0 j.toNat,[])else M.fail
 | _=>M.fail
noncomputable def qjt (ds:List D):M (List D × Src):=match ds with
 | [.int i,.int j]=>if qfv i && qfv j then M.pure (qh1 i (j - i).toNat,[])else M.fail
 | _=>M.fail
theorem qi1 {w:Wd} {H:Hp} {lo:Int} {n:Nat}:Walks (Itr lo n) w H [] (qh1 lo n):=by
 have hl:(qh1 lo n).length=n:=by simp [qh1]
 refine⟨fun w' H' S' i _ _ _ hi=>by rw[hl]at hi;exact hi,fun w' H' S' _ _ _=>by rw[hl];exact Nat.le_refl _,fun w' H' S' i x H'' l hh hs hi y=> ?_⟩
 obtain ⟨rfl,rfl⟩:=y
 rw[hl]at hi
 exact⟨w',.int (lo+i),by simp [qh1,hi],Le.refl _ _,hh,rfl⟩
theorem qzn (hg:Gl X "range") (hm:X.mg "range"=none) (ha:PA X [a] (tL E fs)) (hs:starEach [a] X.env=[(false,eval a X.env)]):PI X tg (.Call (.Name "range" p) [a] [] pos) (tI E fun Γ=>M.bind (fs Γ) qd0):=by
 refine PI.mono (qo0 hg hm ha hs) fun σ H R ⟨w,Γ,S,rel,hold,q⟩=> ?_
 refine qa1 (k:=fun ds _=>qd0 ds) rel hold q fun ds vs S1 w1 H1 l1 rel1 h1 rv q1=> ?_
 unfold qd0 at q1
 split at q1
 case h_1 j =>
   obtain ⟨hz,q1⟩:=Wp.iteF q1
   unfold qfv at hz
   rw[Bool.and_eq_true]at hz
   obtain ⟨v,rfl,r⟩:=rv.one_
   exact⟨j,by rw[show v=.int j from r],of_decide_eq_true hz.1,of_decide_eq_true hz.2,q1 _ _ (Le.refl _ _) h1 _ qi1⟩
 case h_2=>exact False.elim q1
theorem qzo (hg:Gl X "range") (hm:X.mg "range"=none) (ha:PA X [a,b] (tL E fs)) (hs:starEach [a,b] X.env=[(false,eval a X.env),(false,eval b X.env)]) (hs2:starEach [b] X.env=[(false,eval b X.env)]):PI X tg (.Call (.Name "range" p) [a,b] [] pos) (tI E fun Γ=>M.bind (fs Γ) qjt):=by
 refine PI.mono (qo1 hg hm ha hs hs2) fun σ H R ⟨w,Γ,S,rel,hold,q⟩=> ?_
 refine qa1 (k:=fun ds _=>qjt ds) rel hold q fun ds vs S1 w1 H1 l1 rel1 h1 rv q1=> ?_
 unfold qjt at q1
 split at q1
 case h_1 i j =>
   obtain ⟨hz,q1⟩:=Wp.iteF q1
   unfold qfv at hz
   rw[Bool.and_eq_true,Bool.and_eq_true,Bool.and_eq_true]at hz
   obtain ⟨v,v',rfl,r,r'⟩:=rv.two_
   exact⟨i,j,by rw[show v=.int i from r,show v'=.int j from r'],⟨of_decide_eq_true hz.1.1,of_decide_eq_true hz.1.2,of_decide_eq_true hz.2.1,of_decide_eq_true hz.2.2⟩,q1 _ _ (Le.refl _ _) h1 _ qi1⟩
 case h_2=>exact False.elim q1
noncomputable def qfw (xs:List D):List D:=(List.range xs.length).map fun i:Nat=>D.tup [.int i,xs.getD i .non]
noncomputable def qd1 (ds:List D):M (List D × Src):=match ds with
 | [d]=>M.bind (qak d) fun r=>match d with
   | .tup _=>M.fail
   | _=>M.pure (qfw r.1,r.2)
 | _=>M.fail
theorem qll {xs:List D} {i:Nat} {d:D} (h:xs[i]? =some d):(qfw xs)[i]? =some (.tup [.int i,d]):=by
 have hi:=(List.getElem?_eq_some_iff.mp h).1
 simp [qfw,hi]
 have:xs[i]=d:=by rw[List.getElem?_eq_getElem hi]at h;exact Option.some.inj h
 exact this
theorem qfa (xs:List D):(qfw xs).length=xs.length:=by simp [qfw]
theorem qlm {w:Wd} {H:Hp} {S:Sto} {p:Addr} {d d':D} {v v':V} (h:qf w H S) (hp:H p=none) (r:Rep w H d v) (r':Rep w H d' v'):Le w H (w.fix p) (upd H p (.tup [v,v']))∧qf (w.fix p) (upd H p (.tup [v,v'])) S∧Rep (w.fix p) (upd H p (.tup [v,v'])) (.tup [d,d']) (.ref p) :=
 ⟨qbd h hp,qby h hp,p,[v,v'],rfl,.inl rfl,qg,qb.cons (r.mono (qbd h hp)) (qb.one (r'.mono (qbd h hp)))⟩
theorem qm3 {K:PySem.W.Frag} {w:Wd} {H:Hp} {src:Src} {a:Addr} {xs:List D} (h:∀ w' H' S',Le w H w' H'→qf w' H' S'→qaj src S'→∃ vs,H' a=some (.lst vs)∧qb w' H' xs vs):Walks (Ite K a) w H src (qfw xs):=by
 refine⟨fun w' H' S' i l hh hs hi=> ?_,fun w' H' S' l hh hs=> ?_,fun w' H' S' i x H'' l hh hs hi y=> ?_⟩
 · obtain ⟨vs,e,r⟩:=h w' H' S' l hh hs
   have hi2:i < vs.length:=by rw[← r.length,← qfa];exact hi
   exact⟨vs,vs[i],SqL.of e,List.getElem?_eq_getElem hi2⟩
 · obtain ⟨vs,e,r⟩:=h w' H' S' l hh hs
   exact⟨vs,SqL.of e,by rw[qfa,r.length];exact Nat.le_refl _⟩
 · obtain ⟨vs,e,r⟩:=h w' H' S' l hh hs
   obtain ⟨p,z,hp,rfl,rfl,y⟩:=y
   obtain ⟨d,e1,e2⟩:=r.get' (y vs (SqL.of e))
   obtain ⟨k1,k2,k3⟩:=qlm (d:=.int i) (v:=.int i) hh hp rfl e2
   exact⟨_,_,qll e1,k1,k2,k3⟩
theorem qzp {elts:List Expr} {k:Nat} {pos':Pos} (hg:Gl X "enumerate") (hm:X.mg "enumerate"=none) (ha:PA X [a] (tL E fs)) (hs:starEach [a] X.env=[(false,eval a X.env)]):PI X (.Tuple elts k pos') (.Call (.Name "enumerate" p) [a] [] pos) (tI E fun Γ=>M.bind (fs Γ) qd1):=by
 refine PI.mono (qtx hg hm ha hs) fun σ H R ⟨w,Γ,S,rel,hold,q⟩=> ?_
 refine qa1 (k:=fun ds _=>qd1 ds) rel hold q fun ds vs S1 w1 H1 l1 rel1 h1 rv q1=> ?_
 unfold qd1 at q1
 split at q1
 case h_2=>exact False.elim q1
 case h_1 d =>
   obtain ⟨v,rfl,r⟩:=rv.one_
   replace q1:=Wp.bind q1
   cases e1:qak d S1 with
   | no=>rw[e1]at q1;exact False.elim q1
   | err x S2 =>
     unfold qak at e1
     cases d <;> dsimp only at e1 <;> first | (cases e1;done) | (split at e1 <;> cases e1)
   | ok rr S2 =>
     rw[e1]at q1
     obtain ⟨items,src⟩:=rr
     obtain ⟨rfl,k | k⟩:=qjs h1 r e1
     · obtain ⟨p,vs,rfl,k1,k2⟩:=k
       have q2:=q1 _ _ (Le.refl _ _) h1
       have:∀ xs,d ≠ .tup xs:=by
         rintro xs rfl
         obtain ⟨a',vs',e2,_,k3,_⟩:=r
         cases e2
         rw[k1]at k3;cases k3
       have q3:Wp E w1 H1 (M.pure (qfw items,src) S2) fun r x w' H'=>∀ J,Walks J w' H' r.2 r.1→R J H':=by
         cases d <;> first | exact q2 | exact absurd rfl (this _)
       exact⟨p,rfl,⟨vs,SqL.of k1⟩,q3 _ _ (Le.refl _ _) h1 _ (qm3 k2)⟩
     · obtain ⟨p,vs,rfl,k1,k2⟩:=k
       exfalso
       have q2:=q1 _ _ (Le.refl _ _) h1
       clear q1
       cases d <;> first | (simp only [Rep]at r;cases r;done) | (unfold qak at e1;cases e1;done) | exact False.elim q2 | skip
       case ref l =>
         unfold qak at e1
         dsimp only at e1
         cases q':S2[l]? with
         | none=>rw[q']at e1;cases e1
         | some c =>
           rw[q']at e1
           cases c <;> cases e1
           obtain ⟨a',ea,e2⟩:=r
           cases e2
           obtain ⟨_,vs',k3,_⟩:=h1.cell l p _ ea q'
           rw[k1]at k3;cases k3
       case lst =>
         obtain ⟨a',vs',e2,_,k3,_⟩:=r
         cases e2
         rw[k1]at k3;cases k3
noncomputable def qer:List D→List D→List D
 | x::xs,y::ys=>.tup [x,y]::qer xs ys
 | _,_=>[]
theorem qju:∀ {xs ys:List D} {i:Nat} {d d':D},xs[i]? =some d→ys[i]? =some d'→(qer xs ys)[i]? =some (.tup [d,d'])
 | [],_,_,_,_,h,_=>by simp at h
 | _::_,[],_,_,_,_,h=>by simp at h
 | x::xs,y::ys,0,d,d',h,h'=>by
   simp at h h'
   subst h h'
   rfl
 | x::xs,y::ys,i+1,d,d',h,h'=>by
   rw[qer]
   simp only [List.getElem?_cons_succ]at h h' ⊢
   exact qju h h'
theorem qg7:∀ (xs ys:List D),(qer xs ys).length=min xs.length ys.length
 | [],ys=>by simp [qer]
 | _::_,[]=>by simp [qer]
 | x::xs,y::ys=>by simp [qer,qg7 xs ys,Nat.succ_min_succ]
noncomputable def qg8 (ds:List D):M (List D × Src):=match ds with
 | [d,d']=>M.bind (qak d) fun r=>M.bind (qak d') fun r'=>M.pure (qer r.1 r'.1,r.2++r'.2)
 | _=>M.fail
theorem qrx {w:Wd} {H:Hp} {S:Sto} {d:D} {v:V} {items:List D} {src:Src} {S':Sto} {K:PySem.W.Frag} (h:qf w H S) (r:Rep w H d v) (e:qak d S=.ok (items,src) S') :
   S'=S∧∃ (bb:Bool) (a:Addr) (vs:List V),v=.ref a∧SqS K bb H a vs∧∀ w' H' S',Le w H w' H'→qf w' H' S'→qaj src S'→∃ vs,SqS K bb H' a vs∧qb w' H' items vs:=by
 obtain ⟨rfl,k | k⟩:=qjs h r e
 · obtain ⟨a,vs,e1,e2,k⟩:=k
   exact⟨rfl,true,a,vs,e1,SqL.of e2,fun w' H' S' l h s=>let ⟨vs,e,r⟩:=k w' H' S' l h s;⟨vs,SqL.of e,r⟩⟩
 · obtain ⟨a,vs,e1,e2,k⟩:=k
   exact⟨rfl,false,a,vs,e1,SqT.of e2,fun w' H' S' l h s=>let ⟨vs,e,r⟩:=k w' H' S' l h s;⟨vs,SqT.of e,r⟩⟩
theorem qc3 {d:D} {S:Sto} {x:Exn} {S':Sto}:qak d S ≠ .err x S':=fun e1=>by
 unfold qak at e1
 cases d <;> dsimp only at e1 <;> first | (cases e1;done) | (split at e1 <;> cases e1)
theorem qi2 {K:PySem.W.Frag} {w:Wd} {H:Hp} {src src':Src} {b1 b2:Bool} {a a':Addr} {xs ys:List D} (h:∀ w' H' S',Le w H w' H'→qf w' H' S'→qaj src S'→∃ vs,SqS K b1 H' a vs∧qb w' H' xs vs)
   (h2:∀ w' H' S',Le w H w' H'→qf w' H' S'→qaj src' S'→∃ vs,SqS K b2 H' a' vs∧qb w' H' ys vs):Walks (Itz K b1 b2 a a') w H (src++src') (qer xs ys):=by
 have s1:∀ {S},qaj (src++src') S→qaj src S:=fun s p hp=>s p (List.mem_append_left _ hp)
 have s2:∀ {S},qaj (src++src') S→qaj src' S:=fun s p hp=>s p (List.mem_append_right _ hp)
 refine⟨fun w' H' S' i l hh hs hi=> ?_,fun w' H' S' l hh hs=> ?_,fun w' H' S' i x H'' l hh hs hi y=> ?_⟩
 · obtain ⟨vs,e,r⟩:=h w' H' S' l hh (s1 hs)
   obtain ⟨us,e',r'⟩:=h2 w' H' S' l hh (s2 hs)
   rw[qg7,r.length,r'.length]at hi
   exact⟨⟨vs,vs[i]'(by omega),e,List.getElem?_eq_getElem (by omega)⟩,us,us[i]'(by omega),e',List.getElem?_eq_getElem (by omega)⟩
 · obtain ⟨vs,e,r⟩:=h w' H' S' l hh (s1 hs)
   obtain ⟨us,e',r'⟩:=h2 w' H' S' l hh (s2 hs)
   exact⟨vs,us,e,e',by rw[qg7,r.length,r'.length];omega⟩
 · obtain ⟨vs,e,r⟩:=h w' H' S' l hh (s1 hs)
   obtain ⟨us,e',r'⟩:=h2 w' H' S' l hh (s2 hs)
   obtain ⟨p,z,z',hp,rfl,rfl,y,y'⟩:=y
   obtain ⟨d,e1,e2⟩:=r.get' (y vs e)
   obtain ⟨d',e1',e2'⟩:=r'.get' (y' us e')
   obtain ⟨k1,k2,k3⟩:=qlm hh hp e2 e2'
   exact⟨_,_,qju e1 e1',k1,k2,k3⟩
theorem q23 {elts:List Expr} {k:Nat} {pos':Pos} (hg:Gl X "zip") (hm:X.mg "zip"=none) (ha:PA X [a,b] (tL E fs)) (hs:starEach [a,b] X.env=[(false,eval a X.env),(false,eval b X.env)]) (hs2:starEach [b] X.env=[(false,eval b X.env)]):PI X (.Tuple elts k pos') (.Call (.Name "zip" p) [a,b] [] pos) (tI E fun Γ=>M.bind (fs Γ) qg8):=by
 refine PI.mono (qq8 hg hm ha hs hs2) fun σ H R ⟨w,Γ,S,rel,hold,q⟩=> ?_
 refine qa1 (k:=fun ds _=>qg8 ds) rel hold q fun ds vs S1 w1 H1 l1 rel1 h1 rv q1=> ?_
 unfold qg8 at q1
 split at q1
 case h_2=>exact False.elim q1
 case h_1 d d' =>
   obtain ⟨v,v',rfl,r,r'⟩:=rv.two_
   replace q1:=Wp.bind q1
   cases e1:qak d S1 with
   | no=>rw[e1]at q1;exact False.elim q1
   | err x S2=>exact absurd e1 qc3
   | ok rr S2 =>
     rw[e1]at q1
     obtain ⟨items,src⟩:=rr
     obtain ⟨rfl,b1,a1,vs1,rfl,k1,k2⟩:=qrx (K:=X.K) h1 r e1
     have q2:=Wp.bind (q1 _ _ (Le.refl _ _) h1)
     cases e2:qak d' S2 with
     | no=>rw[e2]at q2;exact False.elim q2
     | err x S2=>exact absurd e2 qc3
     | ok rr' S3 =>
       rw[e2]at q2
       obtain ⟨items',src'⟩:=rr'
       obtain ⟨rfl,b2,a2,vs2,rfl,k1',k2'⟩:=qrx (K:=X.K) h1 r' e2
       exact⟨b1,b2,a1,a2,rfl,⟨vs1,k1⟩,⟨vs2,k1'⟩,q2 _ _ (Le.refl _ _) h1 _ _ (Le.refl _ _) h1 _ (qi2 k2 k2')⟩
noncomputable def forL (src:Src) (hd:D→Env→M Env) (body:MS):List D→MS
 | [],Γ=>M.bind (guard src) fun _=>M.pure (.nx,Γ)
 | d::ds,Γ=>M.bind (guard src) fun _=>M.bind (hd d Γ) fun Γ1=>M.bind (body Γ1) fun r=>match r.1 with
   | .nx=>forL src hd body ds r.2
   | .ct=>forL src hd body ds r.2
   | .bk=>M.pure (.nx,r.2)
   | .rt d=>M.pure (.rt d,r.2)
noncomputable def qzq (fi:MI) (hd:D→Env→M Env) (body:MS):MS:=fun Γ=>M.bind (fi Γ) fun r=>forL r.2 hd body r.1 Γ
theorem q24 {T:List Nat} {hd:D→Env→M Env} {body:List Stmt} (hp:PassesOwn (model X.prog X.w) X.A X.env X.xe) (hc:X.calm=true) (hi:PI X tg it (tI E fi)) (hg:PG X tg (tG E T hd)) (hb:PSs X body (tS E s1)) (hs:∀ x,foldedSetIterable it X.env x=pure x) :
   PS X (.For tg it body [] pos) (tS E (qzq fi hd s1)):=by
 refine PS.mono (qxc hp hc hi hg hb hs) fun D σ H ⟨w,Γ,S,rel,hold,q⟩=> ?_
 refine⟨w,Γ,S,rel,hold,(Wp.bind q).mono fun r S1 w1 H1 l1 h1 q1 J wk=> ?_⟩
 obtain ⟨items,src⟩:=r
 refine⟨fun i m σ H=>m=items.length - i∧i≤items.length∧∃ w' Γ' S',Le w1 H1 w' H∧Rel w' H σ Γ'∧qf w' H S'∧Wp E w' H (forL src hd s1 (items.drop i) Γ' S') (qbb D),⟨_,rfl,Nat.zero_le _,w1,Γ,S1,Le.refl _ _,rel.mono l1,h1,q1⟩,?_⟩
 rintro i m σ H ⟨rfl,hi,w2,Γ2,S2,l2,rel2,h2,q2⟩
 by_cases hlt:i < items.length
 · have hdr:items.drop i=items[i]::items.drop (i+1):=(List.drop_eq_getElem_cons hlt)
   rw[hdr,forL]at q2
   obtain ⟨so,q2⟩:=qan q2
   refine .inr ⟨wk.go w2 H S2 i l2 h2 so hlt,fun σ' H'=>∃ w' Γ' S',Le w1 H1 w' H'∧Rel w' H' σ' Γ'∧qf w' H' S'∧Wp E w' H' (forL src hd s1 (items.drop (i+1)) Γ' S') (qbb D),fun σ' H' z=>⟨_,by omega,rfl,hlt,z⟩,fun x H' y=> ?_⟩
   obtain ⟨w3,d,e3,l3,h3,r3⟩:=wk.yld w2 H S2 i x H' l2 h2 so hlt y
   have:d=items[i]:=by rw[List.getElem?_eq_getElem hlt]at e3;exact(Option.some.inj e3).symm
   subst this
   have q3:=q2.later l3
   refine⟨w3,items[i],Γ2,S2,rel2.mono l3,h3,r3,(Wp.bind q3).mono fun Γ4 S4 w4 H4 l4 h4 q4 σ4 rel4 _=> ?_⟩
   refine⟨w4,Γ4,S4,rel4,h4,(Wp.bind q4).mono fun r5 S5 w5 H5 l5 h5 q5=> ?_⟩
   obtain ⟨fl,Γ5⟩:=r5
   have ll:=(l2.trans l3).trans (l4.trans l5)
   cases fl with
   | nx=>exact fun σ' rel'=>⟨w5,Γ5,S5,ll,rel',h5,q5⟩
   | ct=>exact fun σ' rel'=>⟨w5,Γ5,S5,ll,rel',h5,q5⟩
   | bk=>exact fun σ' rel'=>(q5 _ _ (Le.refl _ _) h5:qbb D (.nx,Γ5) S5 w5 H5) σ' rel'
   | rt d=>exact fun v rv=>(q5 _ _ (Le.refl _ _) h5:qbb D (.rt d,Γ5) S5 w5 H5) v rv
 · have e:i=items.length:=by omega
   subst e
   rw[List.drop_length,forL]at q2
   obtain ⟨so,q2⟩:=qan q2
   exact .inl ⟨wk.stop w2 H S2 l2 h2 so,(q2 _ _ (Le.refl _ _) h2:qbb D (.nx,Γ2) S2 w2 H) σ rel2⟩
noncomputable def qcb (c:Env→M Bool) (body:MS):Nat→MS
 | 0,_=>M.fail
 | n+1,Γ=>M.bind (c Γ) fun b=>if b=true then M.bind (body Γ) fun r=>match r.1 with
   | .nx=>qcb c body n r.2
   | .ct=>qcb c body n r.2
   | .bk=>M.pure (.nx,r.2)
   | .rt d=>M.pure (.rt d,r.2)else M.pure (.nx,Γ)
noncomputable def qm4 (c:Env→M Bool) (body:MS):MS:=fun Γ S=> @dite _ (∃ n,qcb c body n Γ S ≠ .no) (Classical.propDecidable _) (fun h=>qcb c body h.choose Γ S) (fun _=>.no)
theorem qum {fc:Env→M Bool} {body:List Stmt} (hp:PassesOwn (model X.prog X.w) X.A X.env X.xe) (hc:PT X c (tB E fc)) (hb:PSs X body (tS E s1)):PS X (.While c body [] pos) (tS E (qm4 fc s1)):=by
 refine PS.mono (qqo hp hc hb) fun D σ H ⟨w,Γ,S,rel,hold,q⟩=> ?_
 unfold qm4 at q
 by_cases hn:∃ n,qcb fc s1 n Γ S ≠ .no
 · rw [dif_pos hn]at q
   refine⟨fun m σ H=>∃ w' Γ' S',Rel w' H σ Γ'∧qf w' H S'∧Wp E w' H (qcb fc s1 m Γ' S') (qbb D),⟨_,w,Γ,S,rel,hold,q⟩,?_⟩
   rintro m σ H ⟨w2,Γ2,S2,rel2,h2,q2⟩
   cases m with
   | zero=>exact False.elim q2
   | succ m =>
     rw[qcb]at q2
     refine qbu (k:=fun b Γ=>if b=true then M.bind (s1 Γ) fun r=>match r.1 with
       | .nx=>qcb fc s1 m r.2
       | .ct=>qcb fc s1 m r.2
       | .bk=>M.pure (.nx,r.2)
       | .rt d=>M.pure (.rt d,r.2)else M.pure (.nx,Γ)) rel2 h2 q2 fun bb S3 w3 H3 l3 rel3 h3 q3=> ?_
     cases bb with
     | true =>
       rw[if_pos rfl]
       refine⟨fun σ' H'=>∃ w' Γ' S',Rel w' H' σ' Γ'∧qf w' H' S'∧Wp E w' H' (qcb fc s1 m Γ' S') (qbb D),fun σ' H' z=>⟨m,by omega,z⟩,?_⟩
       refine⟨w3,Γ2,S3,rel3,h3,(Wp.bind q3).mono fun r5 S5 w5 H5 l5 h5 q5=> ?_⟩
       obtain ⟨fl,Γ5⟩:=r5
       cases fl with
       | nx=>exact fun σ' rel'=>⟨w5,Γ5,S5,rel',h5,q5⟩
       | ct=>exact fun σ' rel'=>⟨w5,Γ5,S5,rel',h5,q5⟩
       | bk=>exact fun σ' rel'=>(q5 _ _ (Le.refl _ _) h5:qbb D (.nx,Γ5) S5 w5 H5) σ' rel'
       | rt d=>exact fun v rv=>(q5 _ _ (Le.refl _ _) h5:qbb D (.rt d,Γ5) S5 w5 H5) v rv
     | false =>
       rw[if_neg Bool.false_ne_true]
       exact(q3 _ _ (Le.refl _ _) h3:qbb D (.nx,Γ2) S3 w3 H3) σ rel3
 · rw[dif_neg hn]at q
   exact False.elim q
end
noncomputable def noErr {α:Type} (m:M α):M α:=fun S=>match m S with
 | .err _ _=>.no
 | r=>r
theorem Wp.noErr {α:Type} {E E':XW} {w:Wd} {H:Hp} {m:M α} {S:Sto} {P:α→Sto→Wd→Hp→Prop} (q:Wp E w H (noErr m S) P):Wp E' w H (m S) P:=by
 unfold T3.noErr at q
 cases e:m S with
 | ok a S'=>rw[e]at q;exact q
 | err x S'=>rw[e]at q;exact False.elim q
 | no=>rw[e]at q;exact q
noncomputable def lcA (src:Src) (n:Nat) (hd:D→Env→M Env) (cond:Env→M Bool) (elt:Env→M D) (Γ:Env):List D→List D→M (List D)
 | acc,[]=>M.bind (guard src) fun _=>M.pure acc
 | acc,d::ds=>M.bind (guard src) fun _=>M.bind (hd d (List.replicate n none++Γ)) fun Γ1=>M.bind (cond Γ1) fun b =>
   if b=true then M.bind (elt Γ1) fun y=>lcA src n hd cond elt Γ (acc++[y]) ds else lcA src n hd cond elt Γ acc ds
noncomputable def lcD (new:Bool) (n:Nat) (fi:MI) (hd:D→Env→M Env) (cond:Env→M Bool) (elt:Env→M D) (Γ:Env):M D :=
 M.bind (fi Γ) fun r=>if decide (r.1.length < sizeLine)then M.bind (noErr (lcA r.2 n hd cond elt Γ [] r.1)) fun ds=>alloc new (.lst ds)else M.fail
theorem Rel.cons {w:Wd} {H:Hp} {σ:St} {Γ:Env} (r:Rel w H σ Γ) (n:Nat):Rel w H (List.replicate n none++σ) (List.replicate n none++Γ):=by
 refine⟨by simp [r.len],fun i d e=> ?_⟩
 by_cases hi:i < n
 · rw[List.getElem?_append_left (by simpa using hi)]at e
   simp [hi]at e
 · rw[List.getElem?_append_right (by simp;omega)]at e ⊢
   simp only [List.length_replicate]at e ⊢
   exact r.at_ _ d e
theorem Rel.undrop {w:Wd} {H:Hp} {σ:St} {n:Nat} {σ2:St} {T:List Nat} {Γ2:Env} (r2:Rel w H σ2 Γ2) (hT:∀ i ∈ T,i < n) (hb:But T (List.replicate n none++σ) σ2) (hl:σ2.length=n+σ.length):σ2.drop n=σ:=by
 refine List.ext_getElem? fun i=> ?_
 rw[List.getElem?_drop,hb (n+i) (fun z=>by have:=hT _ z;omega),List.getElem?_append_right (by simp)]
 simp
section
variable {X:Cx} {E E2:XW} {tg it elt:Expr} {ifs:List Expr} {fe:Env→M D} {pos:Pos} {fi:MI} {cond:Env→M Bool} {T:List Nat} {hd:D→Env→M Env} {ts Mk:List Str} {scope:Scope} {new:Bool}
noncomputable def qab (hd:D→Env→M Env):Prop:=∀ d Γ S Γ' S',hd d Γ S=.ok Γ' S'→Γ'.length=Γ.length
theorem q25 {w:Wd} {H:Hp} {σ:St} {Γ:Env} {S:Sto} {src:Src} {items:List D} {J:It} {P:List D→Sto→Wd→Hp→Prop} {n:Nat} (hT:∀ i ∈ T,i < n) (hk:qab hd) (rel:Rel w H σ Γ) (hold:qf w H S) (wk:Walks J w H src items) (hz:items.length < sizeLine)
   (q:Wp E2 w H (lcA src n hd cond fe Γ [] items S) P) {Fin:List V→Hp→Prop} (hf:∀ ds vs S' w' H',Le w H w' H'→qf w' H' S'→qb w' H' ds vs→P ds S' w' H'→Fin vs H'):LcW J n (tG E2 T hd) (tB E2 cond) (tD E2 fe) σ H Fin:=by
 refine q10 (k:=items.length) (fun i ys H'=>∃ w' S' acc,Le w H w' H'∧qf w' H' S'∧qb w' H' acc ys∧acc.length≤i∧i≤items.length∧Wp E2 w' H' (lcA src n hd cond fe Γ acc (items.drop i) S') P) hz ⟨w,S,[],Le.refl _ _,hold,rfl,Nat.le_refl _,Nat.zero_le _,q⟩ ?_ ?_ ?_ ?_ ?_
 · rintro i ys H' hi ⟨w',S',acc,_,_,r,hl,_⟩
   rw[← r.length];exact hl
 · rintro ys H' ⟨w',S',acc,l,hh,r,hl,_,q⟩
   rw[List.drop_length,lcA]at q
   exact wk.stop w' H' S' l hh (qan q).1
 · rintro i ys H' hi ⟨w',S',acc,l,hh,r,hl,_,q⟩
   rw[List.drop_eq_getElem_cons hi,lcA]at q
   exact wk.go w' H' S' i l hh (qan q).1 hi
 · rintro i ys H' hi ⟨w2,S2,acc,l2,h2,r2,hl,_,q2⟩ x H'' y
   rw[List.drop_eq_getElem_cons hi,lcA]at q2
   obtain ⟨so,q2⟩:=qan q2
   obtain ⟨w3,d,e3,l3,h3,r3⟩:=wk.yld w2 H' S2 i x H'' l2 h2 so hi y
   have:d=items[i]:=by rw[List.getElem?_eq_getElem hi]at e3;exact(Option.some.inj e3).symm
   subst this
   have q3:=Wp.bind (q2.later l3)
   refine⟨w3,items[i],_,S2,(rel.mono (l2.trans l3)).cons n,h3,r3,?_⟩
   cases e4:hd items[i] (List.replicate n none++Γ) S2 with
   | no=>rw[e4]at q3;exact q3
   | err x S4=>rw[e4]at q3;exact q3
   | ok Γ4 S4 =>
     rw[e4]at q3
     have hlen:Γ4.length=n+Γ.length:=by rw[hk _ _ _ _ _ e4];simp
     intro w4 H4 l4 h4 σ4 rel4 b4
     have q4:=q3 w4 H4 l4 h4
     refine⟨rel4.undrop hT b4 (by rw[← rel4.len,hlen,rel.len]),?_⟩
     refine qbu (k:=fun b Γ1=>if b=true then M.bind (fe Γ1) fun y=>lcA src n hd cond fe Γ (acc++[y]) (items.drop (i+1))else lcA src n hd cond fe Γ acc (items.drop (i+1))) rel4 h4 q4 fun bb S5 w5 H5 l5 rel5 h5 q5=> ?_
     have ll:=(l2.trans l3).trans (l4.trans l5)
     have rr:=r2.mono (l3.trans (l4.trans l5))
     cases bb with
     | true =>
       rw[if_pos rfl]
       refine qe (k:=fun y _=>lcA src n hd cond fe Γ (acc++[y]) (items.drop (i+1))) rel5 h5 q5 fun dy yv S6 w6 H6 l6 rel6 h6 ry q6=> ?_
       exact⟨w6,S6,acc++[dy],ll.trans l6,h6,(rr.mono l6).append (qb.one ry),by simp;omega,hi,q6⟩
     | false =>
       rw[if_neg Bool.false_ne_true]
       exact⟨w5,S5,acc,ll,h5,rr,by omega,hi,q5⟩
 · rintro ys H' ⟨w',S',acc,l,hh,r,hl,_,q⟩
   rw[List.drop_length,lcA]at q
   obtain ⟨_,q⟩:=qan q
   exact hf acc ys S' w' H' l hh r (q _ _ (Le.refl _ _) hh)
theorem qry {σ:St} {H:Hp} {Q:VK} {n:Nat} (hT:∀ i ∈ T,i < n) (hk:qab hd) (h:tD E (lcD new n fi hd cond fe) σ H Q):tLC n (tI E fi) (tG E2 T hd) (tB E2 cond) (tD E2 fe) σ H Q:=by
 obtain ⟨w,Γ,S,rel,hold,q⟩:=h
 refine⟨w,Γ,S,rel,hold,(Wp.bind q).mono fun r S1 w1 H1 l1 h1 q1 J wk=> ?_⟩
 obtain ⟨hz,q1⟩:=Wp.iteF q1
 exact q25 hT hk (rel.mono l1) h1 wk (of_decide_eq_true hz) (Wp.noErr (Wp.bind q1)) fun ds vs S' w' H' l' h' rv q' D hD=>qae h' rv q' hD
theorem q47 (cc:qah X ts Mk scope) (hc:X.calm=true) (hi:PI X tg it (tI E fi)) (hg:∀ C fp s₀ H₀,PG (cxC X ts Mk scope C fp s₀ H₀) tg (tG E2 T hd)) (hf:∀ C fp s₀ H₀,PF (cxC X ts Mk scope C fp s₀ H₀) ifs (tB E2 cond))
   (he:∀ C fp s₀ H₀,PE (cxC X ts Mk scope C fp s₀ H₀) elt (tD E2 fe)) (hs:∀ x,foldedSetIterable it X.env x=pure x) (hT:∀ i ∈ T,i < ts.length) (hk:qab hd):PE X (.ListComp elt [⟨tg,it,ifs,0⟩] scope pos) (tD E (lcD new ts.length fi hd cond fe)) :=
 PE.mono (q1z cc hc hi hg hf he hs) fun σ H Q h=>qry hT hk h
theorem qun {i:Nat} {x:Str} {pos' spos:Pos} (hN:X.N.Nodup) (hix:X.N[i]? =some x) (hx:Loc X.env.scope x) (cc:qah X ts Mk scope) (hc:X.calm=true) (hi:PI X tg it (tI E fi)) (hg:∀ C fp s₀ H₀,PG (cxC X ts Mk scope C fp s₀ H₀) tg (tG E2 T hd)) (hf:∀ C fp s₀ H₀,PF (cxC X ts Mk scope C fp s₀ H₀) ifs (tB E2 cond))
   (he:∀ C fp s₀ H₀,PE (cxC X ts Mk scope C fp s₀ H₀) elt (tD E2 fe)) (hs:∀ x,foldedSetIterable it X.env x=pure x) (hsw:swapsWith (.ListComp elt [⟨tg,it,ifs,0⟩] scope pos) (some (.Name x pos')) spos.line X.env=pure true) (hfn:X.fn x=true∨X.env.scope.names.lookup x=some .local) (hT:∀ i ∈ T,i < ts.length) (hk:qab hd) :
   PS X (.Assign [.Name x pos'] (.ListComp elt [⟨tg,it,ifs,0⟩] scope pos) spos) (tS E fun Γ=>M.bind (lcD new ts.length fi hd cond fe Γ) fun d=>M.pure (.nx,Γ.set i (some d))):=by
 refine PS.mono (qq4 hN hix hx cc hc hi hg hf he hs hsw hfn) fun D σ H ⟨w,Γ,S,rel,hold,q⟩=> ?_
 refine qry (new:=new) hT hk (qe (k:=fun d Γ=>M.pure (Fl.nx,Γ.set i (some d))) rel hold q fun dx x S1 w1 H1 l1 rel1 h1 rx q1=> ?_)
 exact(q1 _ _ (Le.refl _ _) h1:qbb D (.nx,_) S1 w1 H1) _ (rel1.set rx)
theorem qwj:PF X [] (tB E fun _=>M.pure true):=fun pins s σ H Q I ⟨w,Γ,S,rel,hold,q⟩=>qx9 pins s σ H Q I (q _ _ (Le.refl _ _) hold)
theorem q26 {c:Expr} (h:PT X c (tB E cond)):PF X [c] (tB E cond):=qya h
end
theorem qps (i:Nat):qab (qzi i):=fun d Γ S Γ' S' e=>by cases e;simp
end T3
namespace L2
open PySem PySem.Spec PyProof.Rows
section
variable {prog:Program} {w:World} {A:Around} {R:Result→Shared→Prop} {elt t1 i1 t2 i2:Expr} {f1 f2:List Expr} {scope:Scope} {pos:Pos} {it acc:Value} {env:Env} {s:Shared}
theorem qh2:compTurn (.ListComp elt [⟨t1,i1,f1,0⟩,⟨t2,i2,f2,0⟩] scope pos) 0 it acc env=(do
     standAt i1.pos
     match ← pyNext it with
     | none=>pure (.done .next)
     | some v =>
       letOwnedTupleGo t1 it v
       assign t1 env v
       let mut ok:=true
       for c in f1 do
         if ok then ok ← isTrue c env (eval c env)
       if ok then
         let x ← eval i2 env
         standAt i2.pos
         let x ← foldedSetIterable i2 env x
         let _ ← runOwn (.compStart (.ListComp elt [⟨t1,i1,f1,0⟩,⟨t2,i2,f2,0⟩] scope pos) 1 (← holding [x] (pyIter x)) acc env) env
       again (.compLoop (.ListComp elt [⟨t1,i1,f1,0⟩,⟨t2,i2,f2,0⟩] scope pos) 0 it acc env)):=by rfl
theorem qh3:compTurn (.ListComp elt [⟨t1,i1,f1,0⟩,⟨t2,i2,f2,0⟩] scope pos) 1 it acc env=(do
     standAt i2.pos
     match ← pyNext it with
     | none=>pure (.done .next)
     | some v =>
       letOwnedTupleGo t2 it v
       assign t2 env v
       let mut ok:=true
       for c in f2 do
         if ok then ok ← isTrue c env (eval c env)
       if ok then
         (do let _ ← call (.builtin "list.append") [acc,← eval elt env])
       again (.compLoop (.ListComp elt [⟨t1,i1,f1,0⟩,⟨t2,i2,f2,0⟩] scope pos) 1 it acc env)):=by rfl
theorem qh4 (I:Nat→Shared→Prop)
   (turn : ∀ n s,I n s→wpAny (model prog w) A (pyNext it) (fun r s₁=>match r with
     | none=>R (.ok .next) s₁
     | some v=>wpAny (model prog w) A (letOwnedTupleGo t2 it v) (fun _ s₁'=>wpAny (model prog w) A (assign t2 env v) (fun _ s₂ =>
         wpAny (model prog w) A (forIn f2 true fun c r=>if r=true then do let ok ← isTrue c env (eval c env);pure (ForInStep.yield ok)else pure (ForInStep.yield r)) (fun ok s₃ =>
           if ok=true then wpAny (model prog w) A (eval elt env) (fun x s₄ =>
             wpAny (model prog w) A (call (.builtin "list.append") [acc,x]) (fun _ s₅=>∃ m,m < n∧I m s₅) (fun _ _=>False) s₄) (fun _ _=>False) s₃
           else ∃ m,m < n∧I m s₃) (fun _ _=>False) s₂) (fun _ _=>False) s₁') (fun _ _=>False) s₁) (fun _ _=>False) s)
   (n:Nat) (h:I n s) :
   codeAny (model prog w) A (.compLoop (.ListComp elt [⟨t1,i1,f1,0⟩,⟨t2,i2,f2,0⟩] scope pos) 1 it acc env) R s:=by
 refine codeAny_loop rfl I (fun n s hI=> ?_) n h
 show wpAny _ A ((compTurn (.ListComp elt [⟨t1,i1,f1,0⟩,⟨t2,i2,f2,0⟩] scope pos) 1 it acc env).onRaise (fun x=>do noteFrame x env;theTreesLotGoes x)) _ _ s
 refine wpAny_noted ?_
 rw[qh3]
 refine wpAny_bind (wpAny_standAt (wpAny_bind (wpAny_mono (turn n s hI) (fun r s₁ h₁=> ?_) fun _ _ h'=>h'.elim)))
 cases r with
 | none=>exact wpAny_pure h₁
 | some v =>
   refine wpAny_bind (wpAny_mono h₁ (fun _ s₁' h₁'=> ?_) fun _ _ h'=>h'.elim)
   refine wpAny_bind (wpAny_mono h₁' (fun _ s₂ h₂=>wpAny_bind (wpAny_mono h₂ (fun ok s₃ h₃=> ?_) fun _ _ h'=>h'.elim)) fun _ _ h'=>h'.elim)
   cases ok with
   | false=>exact wpAny_pure ⟨rfl,h₃⟩
   | true =>
     exact wpAny_bind (wpAny_bind (wpAny_mono h₃ (fun x s₄ h₄=>wpAny_bind (wpAny_mono h₄ (fun _ s₅ h₅=>wpAny_pure (wpAny_pure ⟨rfl,h₅⟩)) fun _ _ h'=>h'.elim)) fun _ _ h'=>h'.elim))
theorem qh5 (hs:∀ x,foldedSetIterable i2 env x=pure x) (I:Nat→Shared→Prop)
   (turn : ∀ n s,I n s→wpAny (model prog w) A (pyNext it) (fun r s₁=>match r with
     | none=>R (.ok .next) s₁
     | some v=>wpAny (model prog w) A (letOwnedTupleGo t1 it v) (fun _ s₁'=>wpAny (model prog w) A (assign t1 env v) (fun _ s₂ =>
         wpAny (model prog w) A (forIn f1 true fun c r=>if r=true then do let ok ← isTrue c env (eval c env);pure (ForInStep.yield ok)else pure (ForInStep.yield r)) (fun ok s₃ =>
           if ok=true then wpAny (model prog w) A (eval i2 env) (fun x s₄ =>
             wpAny (model prog w) A (pyIter x) (fun itv s₅=>codeAny (model prog w) A (.compStart (.ListComp elt [⟨t1,i1,f1,0⟩,⟨t2,i2,f2,0⟩] scope pos) 1 itv acc env) (fun r s₆=>match r with | .ok _=>∃ m,m < n∧I m s₆ | .error _=>False) s₅) (fun _ _=>False) s₄) (fun _ _=>False) s₃
           else ∃ m,m < n∧I m s₃) (fun _ _=>False) s₂) (fun _ _=>False) s₁') (fun _ _=>False) s₁) (fun _ _=>False) s)
   (n:Nat) (h:I n s) :
   codeAny (model prog w) A (.compLoop (.ListComp elt [⟨t1,i1,f1,0⟩,⟨t2,i2,f2,0⟩] scope pos) 0 it acc env) R s:=by
 refine codeAny_loop rfl I (fun n s hI=> ?_) n h
 show wpAny _ A ((compTurn (.ListComp elt [⟨t1,i1,f1,0⟩,⟨t2,i2,f2,0⟩] scope pos) 0 it acc env).onRaise (fun x=>do noteFrame x env;theTreesLotGoes x)) _ _ s
 refine wpAny_noted ?_
 rw[qh2]
 refine wpAny_bind (wpAny_standAt (wpAny_bind (wpAny_mono (turn n s hI) (fun r s₁ h₁=> ?_) fun _ _ h'=>h'.elim)))
 cases r with
 | none=>exact wpAny_pure h₁
 | some v =>
   refine wpAny_bind (wpAny_mono h₁ (fun _ s₁' h₁'=> ?_) fun _ _ h'=>h'.elim)
   refine wpAny_bind (wpAny_mono h₁' (fun _ s₂ h₂=>wpAny_bind (wpAny_mono h₂ (fun ok s₃ h₃=> ?_) fun _ _ h'=>h'.elim)) fun _ _ h'=>h'.elim)
   cases ok with
   | false=>exact wpAny_pure ⟨rfl,h₃⟩
   | true =>
     refine wpAny_bind (wpAny_mono h₃ (fun x s₄ h₄=>wpAny_bind (wpAny_standAt (wpAny_bind (wpAny_of_eq (hs x) (wpAny_bind (wpAny_holding (wpAny_mono h₄ (fun itv s₅ h₅=> ?_) fun _ _ h'=>h'.elim))))))) fun _ _ h'=>h'.elim)
     refine wpAny_bind (wpAny_runOwn (codeAny_mono h₅ fun r s₆ h₆=> ?_))
     cases r with
     | ok f=>exact wpAny_pure ⟨rfl,h₆⟩
     | error e=>exact h₆.elim
theorem qg9
   (h0:codeAny (model prog w) A (.compLoop (.ListComp elt [⟨t1,i1,f1,0⟩,⟨t2,i2,f2,0⟩] scope pos) 1 it acc env) R s)
   (h:wpAny (model prog w) A (pyIter it) (fun it' s'=>codeAny (model prog w) A (.compLoop (.ListComp elt [⟨t1,i1,f1,0⟩,⟨t2,i2,f2,0⟩] scope pos) 1 it' acc env) R s')
     (notedBy (model prog w) A env fun x s'=>R (.error x) s') s) :
   codeAny (model prog w) A (.compStart (.ListComp elt [⟨t1,i1,f1,0⟩,⟨t2,i2,f2,0⟩] scope pos) 1 it acc env) R s:=by
 refine codeAny_of_tree ?_
 show wpAny _ _ ((compStart (.ListComp elt [⟨t1,i1,f1,0⟩,⟨t2,i2,f2,0⟩] scope pos) 1 it acc env).onRaise (fun x=>do noteFrame x env;standAt theWindowsPlace)) _ _ s
 refine wpAny_notedAt ?_
 unfold compStart
 show wpAny _ _ (ask >>= _) _ _ s
 refine wpAny_bind (wpAny_askSetting (wpAny_ite ?_))
 split
 · first
     | exact wpAny_bind (wpAny_pure (wpAny_pure (And.intro rfl h0)))
     | exact wpAny_pure (And.intro rfl h0)
 · first
     | exact wpAny_bind (wpAny_rule (wpAny_bind (wpAny_standAt (wpAny_bind (wpAny_mono h (fun it' s' h'=>wpAny_pure (And.intro rfl h')) fun _ _ x=>x)))))
     | (refine wpAny_bind (wpAny_rule ?_);show wpAny _ _ (standAt i2.pos >>= _) _ _ s;exact wpAny_bind (wpAny_standAt (wpAny_bind (wpAny_mono h (fun it' s' h'=>wpAny_pure (And.intro rfl h')) fun _ _ x=>x))))
end
noncomputable def LcI (J:It) (n:Nat) (g:TG) (tt:TT) (te:TE) (σ:St) (H1:Hp) (ys0:List V) (Fin:List V→Hp→Prop):Prop :=
 ∃ W : Nat→Nat→List V→Hp→Prop,(∃ m,W 0 m ys0 H1)∧∀ i m ys H,W i m ys H→ys.length < sizeLine ∧
   ((J.stop i H∧Fin ys H) ∨
    (J.go i H∧∃ N:List V→Hp→Prop,(∀ ys' H',N ys' H'→∃ m',m' < m∧W (i+1) m' ys' H')∧∀ x H',J.yld i H x H'→g x (List.replicate n none++σ) H' fun σ2 H2=>σ2.drop n=σ∧tt σ2 H2 fun c H3 =>
       if c=true then te σ2 H3 fun y H4=>N (ys++[y]) H4 else N ys H3))
section
variable {Y:Cx}
theorem Inv.bareN {pins:List (Addr × Obj)} {σ' σ:St} {H:Hp} {s:Shared} {n:Nat} (I:Inv Y pins σ' H s) (hn:n≤σ'.length) (d:σ'.drop n=σ):Inv Y pins (List.replicate n none++σ) H s:=by
 refine I.weak (by rw[List.length_append,List.length_replicate,← d,List.length_drop];omega) (fun j v e=> ?_)
 have hj:n≤j:=by
   rcases Nat.lt_or_ge j n with z | z
   · rw[List.getElem?_append_left (by simpa using z),List.getElem?_replicate]at e
     split at e <;> cases e
   · exact z
 rw[List.getElem?_append_right (by simpa using hj)]at e
 rw[← d,List.getElem?_drop]at e
 simp only [List.length_replicate]at e
 rwa [show n+(j - n)=j by omega]at e
theorem qrz {elt t1 i1 t2 i2:Expr} {f1 f2:List Expr} {scope:Scope} {pos:Pos} {g:TG} {tt:TT} {te:TE} (hc:Y.calm=true) (hx:Y.xe=fun _ _=>False) (hpn:Y.pn=[]) (hg:PG Y t2 g) (hf:PF Y f2 tt) (he:PE Y elt te)
   {D:Addr} {pins0:List (Addr × Obj)} {n:Nat} {σ1 σ2:St} {H:Hp} {s:Shared} {ys0:List V} {its0:List Value} {k0:Nat} (hDl:D ≠ Y.env.locals) (hDs:Y.s₀.heap.objs.size≤D) (hDc:∀ x a,Y.env.cells.lookup x=some a→a ≠ D) (hDp:∀ p ∈ pins0,p.1 ≠ D) (hDf:D ∉ Y.fs)
   (hn:n≤Y.N.length) (I:Inv Y ((D,{ cls:=.type "list",data:=.seq its0.toArray k0 })::pins0) σ2 H s) (d:σ2.drop n=σ1) {it:Addr} {fp:List Addr} {tn:Nat→Heap→Prop} {J:It} (T:Turn Y.prog Y.w Y.K t2 J fp it tn) (t0:tn 0 s.heap)
   (f0:∀ b ∈ fp,qci Y ((D,{ cls:=.type "list",data:=.seq its0.toArray k0 })::pins0) H b) (rv0:Vals ys0 its0) {Fin:List V→Hp→Prop} (hw:LcI J n g tt te σ1 H ys0 Fin) {R:Result→Shared→Prop}
   (hR:∀ (σ':St) (H':Hp) (s':Shared) (ys:List V) (its:List Value) (k:Nat),Inv Y ((D,{ cls:=.type "list",data:=.seq its.toArray k })::pins0) σ' H' s'→σ'.drop n=σ1→Vals ys its→Fin ys H'→R (.ok .next) s') :
   codeAny (model Y.prog Y.w) Y.A (.compStart (.ListComp elt [⟨t1,i1,f1,0⟩,⟨t2,i2,f2,0⟩] scope pos) 1 (.ref it) (.ref D) Y.env) R s:=by
 obtain ⟨W,⟨m0,w0⟩,turn⟩:=hw
 have loop :codeAny (model Y.prog Y.w) Y.A (.compLoop (.ListComp elt [⟨t1,i1,f1,0⟩,⟨t2,i2,f2,0⟩] scope pos) 1 (.ref it) (.ref D) Y.env) R s:=by
   refine qh4 (fun n' s'=>∃ (i:Nat) (σ':St) (H':Hp) (ys:List V) (its:List Value) (k:Nat),Inv Y ((D,{ cls:=.type "list",data:=.seq its.toArray k })::pins0) σ' H' s'∧σ'.drop n=σ1∧tn i s'.heap∧(∀ b ∈ fp,H' b=none)∧Vals ys its∧W i n' ys H') ?_ m0
     ⟨0,_,H,ys0,its0,k0,I,d,t0,fun b hb=>(f0 b hb).1,rv0,w0⟩
   rintro n' s1 ⟨i,σ',H1,ys,its,k,I1,d1,t1',fr1,rv1,w1⟩
   obtain ⟨hz,hturn⟩:=turn i n' ys H1 w1
   have stat:∀ {H':Hp},(∀ b ∈ fp,H' b=none)→∀ b ∈ fp,qci Y ((D,{ cls:=.type "list",data:=.seq its.toArray k })::pins0) H' b:=fun {H'} hn b hb=>by
     obtain ⟨_,a2,a3,a4,a5,a6⟩:=f0 b hb
     refine⟨hn b hb,a2,a3,a4,a5,fun p hp=> ?_⟩
     rcases List.mem_append.mp hp with z | z
     · exact a6 p (List.mem_append_left _ z)
     · rcases List.mem_cons.mp z with z | z
       · subst z
         exact a6 (D,{ cls:=.type "list",data:=.seq its0.toArray k0 }) (List.mem_append_right _ List.mem_cons_self)
       · exact a6 p (List.mem_append_right _ (List.mem_cons_of_mem _ z))
   rcases hturn with ⟨stop,fin⟩ | ⟨go,N,hN,step⟩
   · refine wpAny_mono (T.done Y rfl rfl rfl hc i _ s1 σ' H1 (fun _ _=>False) I1 (stat fr1) t1' stop) (fun r s2 ⟨hr,I2⟩=> ?_) fun _ _ z=>z
     subst hr
     exact hR σ' H1 s2 ys its k I2 d1 rv1 fin
   · refine wpAny_mono (T.item Y rfl rfl rfl hc i _ s1 σ' H1 (fun _ _=>False) I1 (stat fr1) t1' go) (fun r s2 ⟨u,hr,h2⟩=> ?_) fun _ _ z=>z
     subst hr
     refine wpAny_mono h2 (fun _ s3 ⟨x,H3,I3,r3,y3,t3,fr3⟩=> ?_) fun _ _ z=>z
     have hlen':n≤σ'.length:=by rw[I3.len];exact hn
     have I3':=((I3.pinned (stat fr3) (T.obj _ _ t3)).bareN hlen' d1)
     have hgx:=hg _ s3 _ H3 x u _ I3' r3 (step x H3 y3)
     rw[hx]at hgx
     refine wpAny_mono hgx (fun _ s4 ⟨σ4,H4,I4,d4,q4⟩=> ?_) fun _ _ z=>z
     have hfx:=hf _ s4 σ4 H4 _ I4 q4
     rw[hx]at hfx
     refine wpAny_mono hfx (fun ok s5 ⟨H5,I5,q5⟩=> ?_) fun _ _ z=>z
     have keepT:∀ {σ7:St} {H7:Hp} {s7:Shared},Inv Y (((D,{ cls:=.type "list",data:=.seq its.toArray k })::pins0)++qcj fp s3.heap) σ7 H7 s7→tn (i+1) s7.heap∧(∀ b ∈ fp,H7 b=none):=fun {σ7 H7 s7} I7 =>
       ⟨T.keep _ _ _ t3 fun b hb o e=>(I7.pin (b,o) (List.mem_append_right _ (List.mem_append_right _ (qag hb e)))).1,fun b hb=>by
         obtain ⟨o,e,_⟩:=T.obj _ _ t3 b hb
         exact(I7.pin (b,o) (List.mem_append_right _ (List.mem_append_right _ (qag hb e)))).2.1⟩
     cases ok with
     | false =>
       rw[if_neg Bool.false_ne_true]at q5 ⊢
       obtain ⟨m',hm,w'⟩:=hN _ _ q5
       exact⟨m',hm,i+1,σ4,H5,ys,its,k,I5.unpinned,d4,(keepT I5).1,(keepT I5).2,rv1,w'⟩
     | true =>
       rw[if_pos rfl]at q5 ⊢
       have hex:=he _ s5 σ4 H5 _ I5 q5
       rw[hx]at hex
       refine wpAny_mono hex (fun v s6 ⟨y,H6,I6,r6,q6⟩=> ?_) fun _ _ z=>z
       obtain ⟨m',hm,w'⟩:=hN _ _ q6
       have pD:=I6.pin (D,{ cls:=.type "list",data:=.seq its.toArray k }) (by simp)
       have hlen:=rv1.length
       refine call_meets F.slot_list_append ⟨_,pD.1,rfl⟩ F.entry_list_append (F.args_list_append_2 _ _) (PySem.list_append D its.toArray k v (by rw[List.size_toArray];omega)) ⟨pD.1,?_⟩
       have q:=PySem.IsL.update pD.1 (·.push v)
       rw[show its.toArray.push v=(its++[v]).toArray by simp]at q
       have up:∀ b o,b ≠ D→s6.heap.get? b=some o→(s6.heap.update D (Obj.mapSeq (·.push v))).get? b=some o:=fun b o hb e=>(Heap.get?_update_other s6.heap (Obj.mapSeq (·.push v)) (Ne.symm hb)).trans e
       have I7:Inv Y pins0 σ4 H6 { s6 with heap:=s6.heap.update D (Obj.mapSeq (·.push v)),toks:=s6.toks } :=
         (I6.pins_of (pins':=pins0) (fun p hp=>I6.pin p (List.mem_append_right _ (List.mem_append_left _ (List.mem_cons_of_mem _ hp))))).turned up pD.2.1 hDl (.inr hDs) hDc (fun p hp=>by
           rw[hpn]at hp
           exact hDp p (by simpa using hp))
       have nDfp:D ∉ fp:=fun z=>(f0 D z).2.2.2.2.2 (D,{ cls:=.type "list",data:=.seq its0.toArray k0 }) (List.mem_append_right _ List.mem_cons_self) rfl
       have I8:=I7.pins_of (pins':=(D,{ cls:=.type "list",data:=.seq (its++[v]).toArray _ })::pins0) (fun p hp=>by
         rcases List.mem_cons.mp hp with z | z
         · subst z
           exact⟨q,pD.2.1,hDl,hDf,fun v z=>by cases z⟩
         · exact I7.pin p (List.mem_append_right _ z))
       refine⟨m',hm,i+1,σ4,H6,ys++[y],its++[v],_,I8,d4,?_,(keepT I6).2,rv1.append (.cons r6 .nil),w'⟩
       exact T.keep _ _ _ (keepT I6).1 fun b hb o e=>up b o (fun z=>nDfp (z ▸ hb)) e
 exact qg9 loop (T.self _ 0 _ _ _ t0 loop)
end
noncomputable def LcO (J:It) (n n2:Nat) (g:TG) (tt:TT) (wi2:TI) (g2:TG) (tt2:TT) (te:TE) (σ:St) (H1:Hp) (Fin:List V→Hp→Prop):Prop :=
 ∃ W : Nat→Nat→List V→Hp→Prop,(∃ m,W 0 m [] H1)∧∀ i m ys H,W i m ys H→ys.length < sizeLine ∧
   ((J.stop i H∧Fin ys H) ∨
    (J.go i H∧∃ N:List V→Hp→Prop,(∀ ys' H',N ys' H'→∃ m',m' < m∧W (i+1) m' ys' H')∧∀ x H',J.yld i H x H'→g x (List.replicate n none++σ) H' fun σ2 H2=>σ2.drop n=σ∧tt σ2 H2 fun c H3 =>
       if c=true then wi2 σ2 H3 fun J2 H4=>LcI J2 n2 g2 tt2 te (σ2.drop n2) H4 ys N else N ys H3))
noncomputable def q48 (n n2:Nat) (wi:TI) (g:TG) (tt:TT) (wi2:TI) (g2:TG) (tt2:TT) (te:TE):TE:=fun σ H Q=>wi σ H fun J H1=>LcO J n n2 g tt wi2 g2 tt2 te σ H1 fun ys H'=>∀ D,H' D=none→Q (.ref D) (upd H' D (.lst ys))
section
variable {X:Cx} {pins:List (Addr × Obj)} {σ:St} {H:Hp} {s:Shared} {ts M:List Str} {scope:Scope} {fp:List Addr}
theorem qpt {tg iter t2 i2 elt:Expr} {ifs f2:List Expr} {pos:Pos} {g g2:TG} {tt tt2:TT} {wi2:TI} {te:TE} {n2:Nat} (hn2:n2≤ts.length) (c:qah X ts M scope) (hc:X.calm=true) (hg:∀ C fp s₀ H₀,PG (cxC X ts M scope C fp s₀ H₀) tg g) (hf:∀ C fp s₀ H₀,PF (cxC X ts M scope C fp s₀ H₀) ifs tt)
   (hi2:∀ C fp s₀ H₀,PI (cxC X ts M scope C fp s₀ H₀) t2 i2 wi2) (hg2:∀ C fp s₀ H₀,PG (cxC X ts M scope C fp s₀ H₀) t2 g2) (hf2:∀ C fp s₀ H₀,PF (cxC X ts M scope C fp s₀ H₀) f2 tt2)
   (he:∀ C fp s₀ H₀,PE (cxC X ts M scope C fp s₀ H₀) elt te) (hs2:∀ env x,foldedSetIterable i2 env x=pure x) {it:Addr} {tn:Nat→Heap→Prop} {J:It} {Fin:List V→Hp→Prop} (I:Inv X pins σ H s) (T:Turn X.prog X.w X.K tg J fp it tn) (t0:tn 0 s.heap) (f0:∀ b ∈ fp,qci X pins H b) (hw:LcO J ts.length n2 g tt wi2 g2 tt2 te σ H Fin)
   {RR:Value→Addr→Result→Shared→Prop}
   (hRR:∀ (D C:Addr) (H':Hp) (s':Shared) (ys:List V) (m:Str→Option Value),Inv X pins σ (upd H' D (.lst ys)) s'→s'.heap.Ns C m→C ≠ X.env.locals→(∀ x a,X.env.cells.lookup x=some a→a ≠ C)→X.s₀.heap.objs.size≤C→upd H' D (.lst ys) C=none→(∀ p ∈ X.pn++pins,p.1 ≠ C)→H' D=none→Fin ys H'→RR (.ref D) C (.ok .next) s') :
   wpAny (model X.prog X.w) X.A (newList []) (fun acc s₃=>wpAny (model X.prog X.w) X.A (newFunctionEnv scope X.env.globals (clo scope X.env) [] X.env.qual none .none (some X.env)) (fun cenv s₄ =>
     codeAny (model X.prog X.w) X.A (.compStart (.ListComp elt [⟨tg,iter,ifs,0⟩,⟨t2,i2,f2,0⟩] scope pos) 0 (.ref it) acc { cenv with scope:=relabel scope X.env }) (RR acc cenv.locals) s₄) X.xe s₃) X.xe s:=by
 obtain ⟨W,⟨m0,w0⟩,turn⟩:=hw
 have fpo:∀ b ∈ fp,b < s.heap.objs.size:=fun b hb=>by obtain ⟨o,e,_⟩:=T.obj _ _ t0 b hb;exact Heap.lt_size e
 refine wpAny_newObj_type (qdu ?_)
 dsimp only
 generalize hH2:s.heap.push { cls:=.type "list",dict:=none,data:=.seq ([]:List Value).toArray }=h2
 have hCs:h2.objs.size=s.heap.objs.size+1:=by rw[← hH2,Heap.size_push]
 obtain ⟨C,hCe⟩:∃ C:Nat,h2.objs.size=C:=⟨_,rfl⟩
 obtain ⟨D,hDe⟩:∃ D:Nat,s.heap.objs.size=D:=⟨_,rfl⟩
 have hns₁:=(Heap.Ns.new h2 (.type "dict")).keeps (pushCells_keeps scope.names (h2.push { cls:=.type "dict",data:=.dict #[] }))
 have ok:=cellsFrom_ok scope.names (h2.push { cls:=.type "dict",data:=.dict #[] }) (h2.objs.size+1) [] ⟨fun _ _ hm=>(nomatch hm),List.Pairwise.nil⟩ (by rw[Heap.size_push];exact Nat.le_refl _)
 rw[Heap.size_push]at ok
 rw[hCe]at hns₁ ok ⊢
 rw[hDe]
 rw[hCe,hDe]at hCs
 have hDC:D ≠ C:=by omega
 generalize hh1:pushCells (h2.push { cls:=.type "dict",data:=.dict #[] }) scope.names=h₁ at hns₁ ok ⊢
 have kp:∀ b o,h2.get? b=some o→h₁.get? b=some o:=fun b o e=>by rw[← hh1];exact pushCells_keeps _ _ b o (Heap.get?_push_of_some _ e)
 have old:∀ b u,s.heap.get? b=some u→h₁.get? b=some u:=fun b u e=>kp b u (hH2 ▸ Heap.get?_push_of_some _ e)
 have hacc:h₁.get? D=some { cls:=.type "list",data:=.seq ([]:List Value).toArray 0 }:=by
   refine kp _ _ ?_
   rw[← hH2,← hDe]
   exact Heap.get?_push_size _ rfl
 have hns:h₁.Ns C fun _=>none:=hns₁
 have hO:qtw scope C h₁:=⟨fun x a h=>⟨(ok.empty x a h).1,(ok.empty x a h).2⟩,ok.apart⟩
 have J0:Inv (cxC X ts M scope C fp s H) [] (List.replicate ts.length none++σ) H { s with heap:=h₁,toks:=s.toks }:=I.comp c f0 fpo (by omega) hns hO old
 have hDn:H D=none:=I.hok.fresh (by omega)
 have loop : codeAny (model X.prog X.w) X.A (.compLoop (.ListComp elt [⟨tg,iter,ifs,0⟩,⟨t2,i2,f2,0⟩] scope pos) 0 (.ref it) (.ref D) (compEnvC scope (cellsFrom (C+1) scope.names (clo scope X.env)) C X.env)) (RR (.ref D) C) { s with heap:=h₁,toks:=s.toks }:=by
   refine qh5 (hs2 _) (fun n s'=>∃ (i:Nat) (σ':St) (H':Hp) (ys:List V) (its:List Value) (k:Nat),Inv (cxC X ts M scope C fp s H) [] σ' H' s'∧σ'.drop ts.length=σ∧tn i s'.heap∧(∀ b ∈ fp,H' b=none)∧H' D=none∧s'.heap.get? D=some { cls:=.type "list",data:=.seq its.toArray k }∧Vals ys its∧W i n ys H') ?_ m0
     ⟨0,_,H,[],[],0,J0,by rw[List.drop_append,List.drop_of_length_le (by simp)];simp,T.keep _ _ _ t0 fun b _ o e=>old b o e,fun b hb=>(f0 b hb).1,hDn,hacc,.nil,w0⟩
   rintro n s1 ⟨i,σ1,H1,ys,its,k,I1,d1,t1,fr1,hD1,hl1,rv1,w1⟩
   obtain ⟨hz,hturn⟩:=turn i n ys H1 w1
   have nDfp:D ∉ fp:=fun z=>by have: @LT.lt Nat _ D s.heap.objs.size:=fpo D z;omega
   have neC:∀ x a,(cellsFrom (C+1) scope.names (clo scope X.env)).lookup x=some a→a ≠ D:=fun x a h z=>by
     have z: @Eq Nat a D:=z
     rcases qad h with h | ⟨_,h⟩
     · have:=(hO.empty _ _ h).2
       omega
     · obtain ⟨v,q⟩:=I.cell x a (qck (c.has I.ok) h)
       have: @LT.lt Nat _ a s.heap.objs.size:=q.lt
       omega
   have pinD:∀ {H':Hp} {s':Shared} {obj:Obj},s'.heap.get? D=some obj→H' D=none→(∀ v,obj.data ≠ .cell v)→∀ p ∈ [(D,obj)],s'.heap.get? p.1=some p.2∧H' p.1=none∧p.1 ≠ (cxC X ts M scope C fp s H).env.locals∧p.1 ∉ (cxC X ts M scope C fp s H).fs∧∀ v,p.2.data ≠ .cell v:=by
     intro H' s' obj e1 e2 e3 p hp
     have hp:p=(D,obj):=by simpa using hp
     subst hp
     refine⟨e1,e2,hDC,fun z=> ?_,e3⟩
     have z:D ∈ frs X.stack:=z
     rcases List.mem_cons.mp (I.stkSub D z)with e | e
     · have: @LT.lt Nat _ X.env.locals s.heap.objs.size:=I.lt
       have e: @Eq Nat D X.env.locals:=e
       omega
     · exact I.nofs (a:=D) (by omega) e
   have I1':=I1.pins_of (pinD hl1 hD1 fun v z=>by cases z)
   have fpk:∀ {H':Hp},(∀ b ∈ fp,H' b=none)→∀ b ∈ fp,qci (cxC X ts M scope C fp s H) [(D,{ cls:=.type "list",data:=.seq its.toArray k })] H' b:=fun {H'} fr b hb=>by
     refine⟨fr b hb,fun z=> ?_,I1.ok.exfs b hb,.inl hb,fun x a h=> ?_,fun p hp=> ?_⟩
     · have: @LT.lt Nat _ b s.heap.objs.size:=fpo b hb
       have z: @Eq Nat b C:=z
       omega
     · rcases qad h with h | ⟨_,h⟩
       · have h1:=(hO.empty _ _ h).2
         have h2: @LT.lt Nat _ b s.heap.objs.size:=fpo b hb
         exact Nat.ne_of_gt (by omega)
       · exact(f0 b hb).2.2.2.2.1 x a (qck (c.has I.ok) h)
     · have hp:p=(D,{ cls:=.type "list",data:=.seq its.toArray k }):=by simpa [cxC]using hp
       subst hp
       rintro rfl
       exact nDfp hb
   rcases hturn with ⟨stop,fin⟩ | ⟨go,N,hN,step⟩
   · refine wpAny_mono (T.done (cxC X ts M scope C fp s H) rfl rfl rfl hc i _ s1 σ1 H1 (fun _ _=>False) I1' (fpk fr1) t1 stop) (fun r s2 ⟨hr,I2⟩=> ?_) fun _ _ z=>z
     subst hr
     have pD:=I2.pin (D,{ cls:=.type "list",data:=.seq its.toArray k }) (by simp)
     obtain ⟨m2,hn2,_⟩:=I2.loc
     refine hRR D C H1 s2 ys m2 (I.comped f0 I2 (by omega) hD1 (by omega) rv1 pD.1) hn2 ?_ (fun x a h=> ?_) ?_ ?_ (fun p hp=> ?_) hD1 fin
     · have: @LT.lt Nat _ X.env.locals s.heap.objs.size:=I.lt
       exact Nat.ne_of_gt (by omega)
     · obtain ⟨v,q⟩:=I.cell x a h
       have: @LT.lt Nat _ a s.heap.objs.size:=q.lt
       exact Nat.ne_of_lt (by omega)
     · have:=I.sz;omega
     · rw[qc (Ne.symm hDC)];exact I2.free
     · have: @LT.lt Nat _ p.1 s.heap.objs.size:=Heap.lt_size (I.pin p hp).1
       exact Nat.ne_of_lt (by omega)
   · refine wpAny_mono (T.item (cxC X ts M scope C fp s H) rfl rfl rfl hc i _ s1 σ1 H1 (fun _ _=>False) I1' (fpk fr1) t1 go) (fun r s2 ⟨u,hr,h2⟩=> ?_) fun _ _ z=>z
     subst hr
     refine wpAny_mono h2 (fun _ s3 ⟨x,H3,I3,r3,y3,t3,fr3⟩=> ?_) fun _ _ z=>z
     have I3':Inv (cxC X ts M scope C fp s H) _ (List.replicate ts.length none++σ) H3 s3:=(I3.pinned (fpk fr3) (T.obj _ _ t3)).weak (by
         have:=I3.len
         have e:σ1.length=(ts++M).length:=I3.len
         rw[List.length_append,List.length_replicate,I.len,e,List.length_append,c.len]) (fun j v e=>by
         have hj:ts.length≤j:=by
           rcases Nat.lt_or_ge j ts.length with z | z
           · rw[List.getElem?_append_left (by simpa using z),List.getElem?_replicate]at e
             split at e <;> cases e
           · exact z
         rw[List.getElem?_append_right (by simpa using hj)]at e
         rw[← d1,List.getElem?_drop]at e
         simp only [List.length_replicate]at e
         rwa [show ts.length+(j - ts.length)=j by omega]at e)
     refine wpAny_mono (hg C fp s H _ s3 _ H3 x u _ I3' r3 (step x H3 y3)) (fun _ s4 ⟨σ4,H4,I4,d4,q4⟩=> ?_) fun _ _ z=>z
     refine wpAny_mono (hf C fp s H _ s4 σ4 H4 _ I4 q4) (fun ok s5 ⟨H5,I5,q5⟩=> ?_) fun _ _ z=>z
     have keepT:∀ {σ7:St} {H7:Hp} {s7:Shared} {o7:Obj},Inv (cxC X ts M scope C fp s H) ((D,o7)::qcj fp s3.heap) σ7 H7 s7→tn (i+1) s7.heap∧(∀ b ∈ fp,H7 b=none):=fun {σ7 H7 s7 o7} I7 =>
       ⟨T.keep _ _ _ t3 fun b hb o e=>(I7.pin (b,o) (List.mem_append_right _ (List.mem_cons_of_mem _ (qag hb e)))).1,fun b hb=>by
         obtain ⟨o,e,_⟩:=T.obj _ _ t3 b hb
         exact(I7.pin (b,o) (List.mem_append_right _ (List.mem_cons_of_mem _ (qag hb e)))).2.1⟩
     cases ok with
     | false =>
       rw[if_neg Bool.false_ne_true]at q5 ⊢
       obtain ⟨m',hm,w'⟩:=hN _ _ q5
       have pD:=I5.pin (D,{ cls:=.type "list",data:=.seq its.toArray k }) (by simp)
       exact⟨m',hm,i+1,σ4,H5,ys,its,k,I5.pins_of (fun p hp=>by simp at hp),d4,(keepT I5).1,(keepT I5).2,pD.2.1,pD.1,rv1,w'⟩
     | true =>
       rw[if_pos rfl]at q5 ⊢
       refine wpAny_mono (hi2 C fp s H _ s5 σ4 H5 _ I5 q5) (fun v s6 h6=> ?_) fun _ _ z=>z
       refine wpAny_mono h6 (fun itv s7 h7=> ?_) fun _ _ z=>z
       obtain ⟨it2,fp2,tn2,J2,H7,rfl,I7,T2,t02,f02,hw2⟩:=h7
       have hDf:D ∉ (cxC X ts M scope C fp s H).fs:=(pinD hl1 hD1 (fun v z=>by cases z) (D,{ cls:=.type "list",data:=.seq its.toArray k }) (by simp)).2.2.2.1
       refine qrz (Y:=cxC X ts M scope C fp s H) (D:=D) (pins0:=qcj fp s3.heap) (n:=n2) (σ1:=σ4.drop n2) (its0:=its) (k0:=k) hc rfl rfl (hg2 C fp s H) (hf2 C fp s H) (he C fp s H) hDC (by show s.heap.objs.size≤D;omega) (fun x a h=>neC x a h) (fun p hp z=>nDfp (z ▸ (qik hp).1)) hDf
         (by show n2≤(ts++M).length;rw[List.length_append];omega) I7 rfl T2 t02 f02 rv1 hw2 ?_
       intro σ8 H8 s8 ys8 its8 k8 I8 d8 rv8 n8
       obtain ⟨m',hm,w'⟩:=hN _ _ n8
       have pD:=I8.pin (D,{ cls:=.type "list",data:=.seq its8.toArray k8 }) (by simp)
       refine⟨m',hm,i+1,σ8,H8,ys8,its8,k8,I8.pins_of (fun p hp=>by simp at hp),?_,(keepT I8).1,(keepT I8).2,pD.2.1,pD.1,rv8,w'⟩
       have e1:σ8.drop ts.length=(σ8.drop n2).drop (ts.length - n2):=by rw[List.drop_drop];congr 1;omega
       rw[e1,d8,List.drop_drop,show n2+(ts.length - n2)=ts.length by omega]
       exact d4
 exact codeAny_compStart_list loop (T.self _ 0 _ _ _ (T.keep _ _ _ t0 fun b _ o e=>old b o e) loop)
theorem qzr {tg iter t2 i2 elt:Expr} {ifs f2:List Expr} {pos:Pos} {wi wi2:TI} {g g2:TG} {tt tt2:TT} {te:TE} {n2:Nat} (hn2:n2≤ts.length) (c:qah X ts M scope) (hc:X.calm=true) (hi:PI X tg iter wi) (hg:∀ C fp s₀ H₀,PG (cxC X ts M scope C fp s₀ H₀) tg g) (hf:∀ C fp s₀ H₀,PF (cxC X ts M scope C fp s₀ H₀) ifs tt)
   (hi2:∀ C fp s₀ H₀,PI (cxC X ts M scope C fp s₀ H₀) t2 i2 wi2) (hg2:∀ C fp s₀ H₀,PG (cxC X ts M scope C fp s₀ H₀) t2 g2) (hf2:∀ C fp s₀ H₀,PF (cxC X ts M scope C fp s₀ H₀) f2 tt2)
   (he:∀ C fp s₀ H₀,PE (cxC X ts M scope C fp s₀ H₀) elt te) (hs:∀ x,foldedSetIterable iter X.env x=pure x:=by intro _;rfl) (hs2:∀ env x,foldedSetIterable i2 env x=pure x:=by intro _ _;rfl):PE X (.ListComp elt [⟨tg,iter,ifs,0⟩,⟨t2,i2,f2,0⟩] scope pos) (q48 ts.length n2 wi g tt wi2 g2 tt2 te):=by
 intro pins s σ H Q I h
 rw[eval_ListComp]
 refine wpAny_comprehension_free (use:=none) rfl hs (qgs (c.has I.ok)) c.kind c.loc (thn (hi pins s σ H _ I h) fun v s1 h1=>thn h1 fun itv s2 h2=> ?_)
 obtain ⟨it,fp,tn,J,H2,rfl,I2,T,t0,f0,hw⟩:=h2
 refine qpt (RR:=fun acc C=>compPost (model X.prog X.w) X.A X.xe none (EP X pins σ Q) acc C) hn2 c hc hg hf hi2 hg2 hf2 he hs2 I2 T t0 f0 hw ?_
 intro D C H' s' ys m I' hn n1 n2 n3 n4 n5 hD fin
 exact⟨m,hn,fun h' hs'=>⟨.ref D,_,I'.turned (t':=s'.toks) (fun b o hb e=>(hs'.2 b hb).trans e) n4 n1 (.inr n3) n2 n5,rfl,fin D hD⟩⟩
end
end L2
namespace T3
open PySem PySem.Spec PyProof.Rows L2
noncomputable def qpu (src:Src) (n n2:Nat) (hd:D→Env→M Env) (fi2:MI) (hd2:D→Env→M Env) (cond2:Env→M Bool) (elt:Env→M D) (Γ:Env):List D→List D→M (List D)
 | acc,[]=>M.bind (guard src) fun _=>M.pure acc
 | acc,d::ds=>M.bind (guard src) fun _=>M.bind (hd d (List.replicate n none++Γ)) fun Γ1=>M.bind (fi2 Γ1) fun r =>
   if decide (acc.length+r.1.length < sizeLine)then M.bind (lcA r.2 n2 hd2 cond2 elt (Γ1.drop n2) acc r.1) fun acc'=>(if decide (acc'.length < sizeLine)then qpu src n n2 hd fi2 hd2 cond2 elt Γ acc' ds else M.fail)else M.fail
noncomputable def q27 (n n2:Nat) (fi:MI) (hd:D→Env→M Env) (fi2:MI) (hd2:D→Env→M Env) (cond2:Env→M Bool) (elt:Env→M D) (Γ:Env):M D :=
 M.bind (fi Γ) fun r=>M.bind (noErr (qpu r.2 n n2 hd fi2 hd2 cond2 elt Γ [] r.1)) fun ds=>M.pure (.lst ds)
section
variable {X:Cx} {E E2:XW} {tg it t2 i2 elt:Expr} {f2:List Expr} {fe:Env→M D} {pos:Pos} {fi fi2:MI} {cond2:Env→M Bool} {T T2:List Nat} {hd hd2:D→Env→M Env} {ts Mk:List Str} {scope:Scope}
theorem Rel.drop {w:Wd} {H:Hp} {σ:St} {Γ:Env} (r:Rel w H σ Γ) (n:Nat):Rel w H (σ.drop n) (Γ.drop n):=by
 refine⟨by simp [r.len],fun i d e=> ?_⟩
 rw[List.getElem?_drop]at e ⊢
 exact r.at_ _ d e
theorem qzs {w:Wd} {H:Hp} {σ:St} {Γ:Env} {S:Sto} {src:Src} {items:List D} {J:It} {P:List D→Sto→Wd→Hp→Prop} {n:Nat} {acc0:List D} {ys0:List V} (hT:∀ i ∈ T2,i < n) (hk:qab hd2) (rel:Rel w H σ Γ) (hold:qf w H S) (r0:qb w H acc0 ys0) (wk:Walks J w H src items) (hz:acc0.length+items.length < sizeLine)
   (q:Wp E2 w H (lcA src n hd2 cond2 fe Γ acc0 items S) P) {Fin:List V→Hp→Prop} (hf:∀ ds vs S' w' H',Le w H w' H'→qf w' H' S'→qb w' H' ds vs→P ds S' w' H'→Fin vs H'):LcI J n (tG E2 T2 hd2) (tB E2 cond2) (tD E2 fe) σ H ys0 Fin:=by
 refine⟨fun i m ys H'=>∃ w' S' acc,m=items.length - i∧Le w H w' H'∧qf w' H' S'∧qb w' H' acc ys∧acc.length≤acc0.length+i∧i≤items.length∧Wp E2 w' H' (lcA src n hd2 cond2 fe Γ acc (items.drop i) S') P,⟨_,w,S,acc0,rfl,Le.refl _ _,hold,r0,by omega,Nat.zero_le _,q⟩,?_⟩
 rintro i m ys H' ⟨w',S',acc,rfl,l,hh,r,hl,hi,q⟩
 refine⟨by rw[← r.length];omega,?_⟩
 by_cases hi':i < items.length
 · right
   rw[List.drop_eq_getElem_cons hi',lcA]at q
   obtain ⟨so,q⟩:=qan q
   refine⟨wk.go w' H' S' i l hh so hi',_,fun ys' H'' z=>⟨items.length - (i+1),by omega,z⟩,fun x H'' y=> ?_⟩
   obtain ⟨w3,d,e3,l3,h3,r3⟩:=wk.yld w' H' S' i x H'' l hh so hi' y
   have:d=items[i]:=by rw[List.getElem?_eq_getElem hi']at e3;exact(Option.some.inj e3).symm
   subst this
   have q3:=Wp.bind (q.later l3)
   refine⟨w3,items[i],_,S',(rel.mono (l.trans l3)).cons n,h3,r3,?_⟩
   cases e4:hd2 items[i] (List.replicate n none++Γ) S' with
   | no=>rw[e4]at q3;exact q3
   | err x S4=>rw[e4]at q3;exact q3
   | ok Γ4 S4 =>
     rw[e4]at q3
     have hlen:Γ4.length=n+Γ.length:=by rw[hk _ _ _ _ _ e4];simp
     intro w4 H4 l4 h4 σ4 rel4 b4
     have q4:=q3 w4 H4 l4 h4
     refine⟨rel4.undrop hT b4 (by rw[← rel4.len,hlen,rel.len]),?_⟩
     refine qbu (k:=fun b Γ1=>if b=true then M.bind (fe Γ1) fun y=>lcA src n hd2 cond2 fe Γ (acc++[y]) (items.drop (i+1))else lcA src n hd2 cond2 fe Γ acc (items.drop (i+1))) rel4 h4 q4 fun bb S5 w5 H5 l5 rel5 h5 q5=> ?_
     have ll:=(l.trans l3).trans (l4.trans l5)
     have rr:=r.mono (l3.trans (l4.trans l5))
     cases bb with
     | true =>
       rw[if_pos rfl]
       refine qe (k:=fun y _=>lcA src n hd2 cond2 fe Γ (acc++[y]) (items.drop (i+1))) rel5 h5 q5 fun dy yv S6 w6 H6 l6 rel6 h6 ry q6=> ?_
       exact⟨w6,S6,acc++[dy],rfl,ll.trans l6,h6,(rr.mono l6).append (qb.one ry),by simp;omega,hi',q6⟩
     | false =>
       rw[if_neg Bool.false_ne_true]
       exact⟨w5,S5,acc,rfl,ll,h5,rr,by omega,hi',q5⟩
 · left
   have:i=items.length:=by omega
   subst this
   rw[List.drop_length,lcA]at q
   obtain ⟨so,q⟩:=qan q
   exact⟨wk.stop w' H' S' l hh so,hf acc ys S' w' H' l hh r (q _ _ (Le.refl _ _) hh)⟩
theorem qzt {w:Wd} {H:Hp} {σ:St} {Γ:Env} {S:Sto} {src:Src} {items:List D} {J:It} {P:List D→Sto→Wd→Hp→Prop} {n n2:Nat} (hT:∀ i ∈ T,i < n) (hk:qab hd) (hT2:∀ i ∈ T2,i < n2) (hk2:qab hd2) (rel:Rel w H σ Γ) (hold:qf w H S) (wk:Walks J w H src items)
   (q:Wp E2 w H (qpu src n n2 hd fi2 hd2 cond2 fe Γ [] items S) P) {Fin:List V→Hp→Prop} (hf:∀ ds vs S' w' H',Le w H w' H'→qf w' H' S'→qb w' H' ds vs→P ds S' w' H'→Fin vs H'):LcO J n n2 (tG E2 T hd) (tB E2 fun _=>M.pure true) (tI E2 fi2) (tG E2 T2 hd2) (tB E2 cond2) (tD E2 fe) σ H Fin:=by
 refine⟨fun i m ys H'=>∃ w' S' acc,m=items.length - i∧Le w H w' H'∧qf w' H' S'∧qb w' H' acc ys∧acc.length < sizeLine∧i≤items.length∧Wp E2 w' H' (qpu src n n2 hd fi2 hd2 cond2 fe Γ acc (items.drop i) S') P,⟨_,w,S,[],rfl,Le.refl _ _,hold,rfl,by rw[sizeLine_eq];decide,Nat.zero_le _,q⟩,?_⟩
 rintro i m ys H' ⟨w',S',acc,rfl,l,hh,r,hl,hi,q⟩
 refine⟨by rw[← r.length];exact hl,?_⟩
 by_cases hi':i < items.length
 · right
   rw[List.drop_eq_getElem_cons hi',qpu]at q
   obtain ⟨so,q⟩:=qan q
   refine⟨wk.go w' H' S' i l hh so hi',_,fun ys' H'' z=>⟨items.length - (i+1),by omega,z⟩,fun x H'' y=> ?_⟩
   obtain ⟨w3,d,e3,l3,h3,r3⟩:=wk.yld w' H' S' i x H'' l hh so hi' y
   have:d=items[i]:=by rw[List.getElem?_eq_getElem hi']at e3;exact(Option.some.inj e3).symm
   subst this
   have q3:=Wp.bind (q.later l3)
   refine⟨w3,items[i],_,S',(rel.mono (l.trans l3)).cons n,h3,r3,?_⟩
   cases e4:hd items[i] (List.replicate n none++Γ) S' with
   | no=>rw[e4]at q3;exact q3
   | err x S4=>rw[e4]at q3;exact q3
   | ok Γ4 S4 =>
     rw[e4]at q3
     have hlen:Γ4.length=n+Γ.length:=by rw[hk _ _ _ _ _ e4];simp
     intro w4 H4 l4 h4 σ4 rel4 b4
     have q4:=q3 w4 H4 l4 h4
     refine⟨rel4.undrop hT b4 (by rw[← rel4.len,hlen,rel.len]),?_⟩
     refine⟨w4,Γ4,S4,rel4,h4,fun w5 H5 l5 h5=> ?_⟩
     dsimp only
     rw[if_pos rfl]
     refine⟨w5,Γ4,S4,rel4.mono l5,h5,(Wp.bind (q4.later l5)).mono fun r2 S6 w6 H6 l6 h6 q6 J2 wk2=> ?_⟩
     obtain ⟨hz,q6⟩:=Wp.iteF q6
     have ll:=(l.trans l3).trans (l4.trans (l5.trans l6))
     refine qzs hT2 hk2 ((rel4.mono (l5.trans l6)).drop n2) h6 (r.mono (l3.trans (l4.trans (l5.trans l6)))) wk2 (of_decide_eq_true hz) (Wp.bind q6) fun ds vs S7 w7 H7 l7 h7 rv q7=> ?_
     obtain ⟨hz7,q7⟩:=Wp.iteF q7
     exact⟨w7,S7,ds,rfl,ll.trans l7,h7,rv,of_decide_eq_true hz7,hi',q7⟩
 · left
   have:i=items.length:=by omega
   subst this
   rw[List.drop_length,qpu]at q
   obtain ⟨so,q⟩:=qan q
   exact⟨wk.stop w' H' S' l hh so,hf acc ys S' w' H' l hh r (q _ _ (Le.refl _ _) hh)⟩
theorem q28 {n2:Nat} (hn2:n2≤ts.length) (cc:qah X ts Mk scope) (hc:X.calm=true) (hi:PI X tg it (tI E fi)) (hg:∀ C fp s₀ H₀,PG (cxC X ts Mk scope C fp s₀ H₀) tg (tG E2 T hd)) (hi2:∀ C fp s₀ H₀,PI (cxC X ts Mk scope C fp s₀ H₀) t2 i2 (tI E2 fi2))
   (hg2:∀ C fp s₀ H₀,PG (cxC X ts Mk scope C fp s₀ H₀) t2 (tG E2 T2 hd2)) (hf2:∀ C fp s₀ H₀,PF (cxC X ts Mk scope C fp s₀ H₀) f2 (tB E2 cond2))
   (he:∀ C fp s₀ H₀,PE (cxC X ts Mk scope C fp s₀ H₀) elt (tD E2 fe)) (hs:∀ x,foldedSetIterable it X.env x=pure x) (hs2:∀ env x,foldedSetIterable i2 env x=pure x) (hT:∀ i ∈ T,i < ts.length) (hk:qab hd) (hT2:∀ i ∈ T2,i < n2) (hk2:qab hd2) :
   PE X (.ListComp elt [⟨tg,it,[],0⟩,⟨t2,i2,f2,0⟩] scope pos) (tD E (q27 ts.length n2 fi hd fi2 hd2 cond2 fe)):=by
 refine PE.mono (qzr hn2 cc hc hi hg (fun _ _ _ _=>qwj (E:=E2)) hi2 hg2 hf2 he hs hs2) fun σ H Q ⟨w,Γ,S,rel,hold,q⟩=> ?_
 refine⟨w,Γ,S,rel,hold,(Wp.bind q).mono fun r S1 w1 H1 l1 h1 q1 J wk=> ?_⟩
 exact qzt hT hk hT2 hk2 (rel.mono l1) h1 wk (Wp.noErr (Wp.bind q1)) fun ds vs S' w' H' l' h' rv q' D hD=>qae (new:=false) h' rv q' hD
end
noncomputable def xw (E':XK):XW:=fun x _ H=>∀ dx vs,H dx=some (.xd (x.fs.zip vs))→(∃ w,qb w H x.xs vs)→E' (.ref x.C) (some dx) H
noncomputable abbrev Fd:=List D→M D
noncomputable def spT (n:Nat) (F:Fd):Sp:=fun vs H Q E'=>∃ w ds S,qb w H ds vs∧qf w H S∧ds.length=n∧Wp (xw E') w H (F ds S) (PV Q)
structure FnT (CX:CXT) (P:Program) (w:World) (K:PySem.W.Frag) (mg:Str→Option Value) (base:Heap) (x:Str) (n k:Nat) (F:Fd):Prop where
 ex:∃ (f:Addr) (fd:FuncData) (ps:List Str),qap P w K mg base CX k f fd ps (spT n F)∧mg x=some (.ref f)∧PySem.W.keepIn K (.ref f)=true∧Binds K fd ps []
noncomputable def qbl (n:Nat) (F:Fd) (ds:List D):M D:=if ds.length=n then F ds else M.fail
section
variable {X:Cx} {CX:CXT} {E':XK} {x:Str} {n k k':Nat} {F:Fd} {p pos:Pos} {e:Expr} {es:List Expr} {fs:Env→M (List D)}
theorem qzu (G:FnT CX X.prog X.w X.K X.mg X.base x n k F) (hr:qam k' X.A) (hk:k≤k') (hg:Gl X x) (hx:Passes CX X E') (ha:PA X (e::es) (tL (xw E') fs)) (hdb:(x==("__debug__":Str))=false)
   (he:starEach (e::es) X.env=(false,eval e X.env)::starEach es X.env) (hpl:(backTo pos (starEach es X.env)).any (·.1)=false):PE X (.Call (.Name x p) (e::es) [] pos) (tD (xw E') fun Γ=>M.bind (fs Γ) (qbl n F)):=by
 obtain ⟨f,fd,ps,FO,hm,hkp,hb⟩:=G.ex
 refine PE.mono (qnu FO (hr.mono hk) hg hm hkp hb .nil hx ha hdb he hpl) fun σ H Q ⟨w,Γ,S,rel,hold,q⟩=> ?_
 refine qa1 (k:=fun ds _=>qbl n F ds) rel hold q fun ds vs S1 w1 H1 l1 rel1 h1 rv q1=> ?_
 unfold qbl at q1
 by_cases hn:ds.length=n
 · rw[if_pos hn]at q1
   exact⟨w1,ds,S1,by rw[List.append_nil];exact rv,h1,hn,q1⟩
 · rw[if_neg hn]at q1;exact False.elim q1
theorem quo (G:FnT CX X.prog X.w X.K X.mg X.base x 0 k F) (hr:qam k' X.A) (hk:k≤k') (hg:Gl X x) (hx:Passes CX X E') (hdb:(x==("__debug__":Str))=false):PE X (.Call (.Name x p) [] [] pos) (tD (xw E') fun _=>F []):=by
 obtain ⟨f,fd,ps,FO,hm,hkp,hb⟩:=G.ex
 refine PE.mono (qqt FO (hr.mono hk) hg hm hkp hb .nil hx hdb) fun σ H Q ⟨w,Γ,S,rel,hold,q⟩=> ?_
 exact⟨w,[],S,rfl,hold,rfl,q⟩
end
noncomputable def qd2 (body:MS) (m:Nat) (ds:List D):M D:=fun S=>match body (ds.map some++List.replicate m none) S with
 | .ok (.rt d,_) S'=>.ok d S'
 | .ok (.nx,_) S'=>.ok .non S'
 | .ok _ _=>.no
 | .err x S'=>.err x S'
 | .no=>.no
section
variable {P:Program} {w:World} {K:PySem.W.Frag} {mg:Str→Option Value} {base:Heap}
theorem Rel.start {w:Wd} {H:Hp} {ds:List D} {vs:List V} {m:Nat} (r:qb w H ds vs):Rel w H (vs.map some++List.replicate m none) (ds.map some++List.replicate m none):=by
 refine⟨by simp [r.length],fun i d e=> ?_⟩
 by_cases hi:i < ds.length
 · rw[List.getElem?_append_left (by simpa using hi),List.getElem?_map]at e
   have e':ds[i]? =some d:=by
     cases q:ds[i]? with
     | none=>rw[q]at e;cases e
     | some d'=>rw[q]at e;simp at e;rw[e]
   obtain ⟨v,h1,h2⟩:=r.get e'
   refine⟨v,?_,h2⟩
   rw[List.getElem?_append_left (by simp;rw[← r.length];exact hi),List.getElem?_map,h1]
   rfl
 · rw[List.getElem?_append_right (by simp;omega)]at e
   simp only [List.length_map]at e
   rw[List.getElem?_replicate]at e
   split at e <;> cases e
theorem qzv {E:XW} {w:Wd} {H:Hp} {S:Sto} {body:MS} {m:Nat} {ds:List D} {Q:VK} (q:Wp E w H (qd2 body m ds S) (PV Q)):Wp E w H (body (ds.map some++List.replicate m none) S) (qbb { nx:=fun _ H'=>Q .non H',rt:=Q }):=by
 unfold qd2 at q
 cases e:body (ds.map some++List.replicate m none) S with
 | no=>rw[e]at q;exact q
 | err x S'=>rw[e]at q;exact q
 | ok r S' =>
   rw[e]at q
   obtain ⟨fl,Γ⟩:=r
   cases fl with
   | nx=>exact fun w' H' l h σ _=>q w' H' l h .non rfl
   | rt d=>exact fun w' H' l h v rv=>q w' H' l h v rv
   | bk=>exact False.elim q
   | ct=>exact False.elim q
theorem q29 {x qual:Str} {st:Stmt} {f:Addr} {fd:FuncData} {N ps:List Str} {k:Nat} {body:MS} (F:Fun K x qual st f fd) (S:qaf N ps (qa st))
   (hb:∀ (cdv:Value) (A:Around) (outer:List PySem.Env) (s:Shared) (H:Hp) (E:XK),qam k (A.deeper (envOfC qual (qa st) s.heap.objs.size f cdv))→PSs (qay CX0 P w K mg base N qual (qa st) f cdv A outer s H E).nox (qo st) (tS (xw E) body)) :
   qap P w K mg base CX0 (k+1) f fd ps (spT ps.length (qd2 body (N.length - ps.length))):=by
 refine F.ok S (fun vs H Q E h=> ?_) (fun cdv A outer s H vs Q E hr h=> ?_)
 · obtain ⟨w,ds,S,r,_,e,_⟩:=h
   rw[← r.length];exact e
 · obtain ⟨w,ds,S,r,hold,e,q⟩:=h
   refine⟨_,hb cdv A outer s H E hr,w,_,S,?_,hold,qzv q⟩
   have:=Rel.start (m:=N.length - ps.length) r
   unfold L2.start
   rw[← r.length,e]
   exact this
end
mutual
noncomputable def frz:Nat→D→Sto→Option (D × Sto)
 | 0,d,S=>match d with
   | .ref _=>none
   | d=>some (d,S)
 | n + 1,d,S=>match d with
   | .ref l=>match S[l]? with
     | some (.lst xs)=>match frzs n xs S with
       | some (ys,S')=>some (.lst ys,S'.set l .gone)
       | none=>none
     | some (.dct ks xs)=>match frzs n xs S with
       | some (ys,S')=>some (.dct ks ys,S'.set l .gone)
       | none=>none
     | some (.obj C fs xs)=>match frzs n xs S with
       | some (ys,S')=>some (.obj C fs ys,S'.set l .gone)
       | none=>none
     | _=>none
   | d=>some (d,S)
noncomputable def frzs:Nat→List D→Sto→Option (List D × Sto)
 | _,[],S=>some ([],S)
 | n,d::ds,S=>match frz n d S with
   | some (e,S')=>match frzs n ds S' with
     | some (es,S'')=>some (e::es,S'')
     | none=>none
   | none=>none
end
noncomputable def qh6 (d:D):M D:=fun S=>match frz 3 d S with
 | some (e,S')=>.ok e S'
 | none=>.no
theorem qgh {n:Nat} {H:Hp} (hf:∀ {d e:D} {S S':Sto} {w:Wd} {v:V},frz n d S=some (e,S')→qf w H S→Rep w H d v→∃ w',Le w H w' H∧qf w' H S'∧Rep w' H e v) :
   ∀ {ds es:List D} {S S':Sto} {w:Wd} {vs:List V},frzs n ds S=some (es,S')→qf w H S→qb w H ds vs→∃ w',Le w H w' H∧qf w' H S'∧qb w' H es vs
 | [],es,S,S',w,vs,e,h,r=>by
   rw[frzs]at e
   cases e
   exact⟨w,Le.refl _ _,h,r⟩
 | d ::ds,es,S,S',w,vs,e,h,⟨v,u,ev,r,t⟩=>by
   rw[frzs]at e
   cases e1:frz n d S with
   | none=>rw[e1]at e;cases e
   | some p =>
     obtain ⟨d1,S1⟩:=p
     rw[e1]at e
     dsimp only at e
     cases e2:frzs n ds S1 with
     | none=>rw[e2]at e;cases e
     | some p =>
       obtain ⟨ds1,S2⟩:=p
       rw[e2]at e
       cases e
       obtain ⟨w1,l1,h1,r1⟩:=hf e1 h r
       obtain ⟨w2,l2,h2,r2⟩:=qgh hf e2 h1 (t.mono l1)
       exact⟨w2,l1.trans l2,h2,v,u,ev,r1.mono l2,r2⟩
theorem qha {H:Hp}:∀ {n:Nat} {d e:D} {S S':Sto} {w:Wd} {v:V},frz n d S=some (e,S')→qf w H S→Rep w H d v→∃ w',Le w H w' H∧qf w' H S'∧Rep w' H e v
 | 0,d,e,S,S',w,v,q,h,r=>by
   cases d <;> simp only [frz]at q <;> first | (cases q;done) | (cases q;exact⟨w,Le.refl _ _,h,r⟩)
 | n + 1,d,e,S,S',w,v,q,h,r=>by
   cases d <;> simp only [frz]at q <;> first | (cases q;exact⟨w,Le.refl _ _,h,r⟩) | skip
   case ref l =>
     obtain ⟨a,ea,rfl⟩:=r
     cases e0:S[l]? with
     | none=>rw[e0]at q;cases q
     | some c =>
       rw[e0]at q
       have ce:=h.cell l a c ea e0
       cases c with
       | gone=>cases q
       | lst xs =>
         dsimp only at q
         cases e1:frzs n xs S with
         | none=>rw[e1]at q;cases q
         | some p =>
           obtain ⟨ys,S1⟩:=p
           rw[e1]at q
           cases q
           obtain ⟨_,vs,k1,k2⟩:=ce
           obtain ⟨w1,l1,h1,r1⟩:=qgh (fun {d e S S' w v} q h r=>qha (n:=n) q h r) e1 h k2
           exact⟨w1.fix a,l1.trans (qbz w1 H a),qdw h1 (l1.at_ ea),a,vs,rfl,.inl rfl,k1,r1.mono (qbz w1 H a)⟩
       | dct ks xs =>
         dsimp only at q
         cases e1:frzs n xs S with
         | none=>rw[e1]at q;cases q
         | some p =>
           obtain ⟨ys,S1⟩:=p
           rw[e1]at q
           cases q
           obtain ⟨_,vs,k1,k3,k2⟩:=ce
           obtain ⟨w1,l1,h1,r1⟩:=qgh (fun {d e S S' w v} q h r=>qha (n:=n) q h r) e1 h k2
           exact⟨w1.fix a,l1.trans (qbz w1 H a),qdw h1 (l1.at_ ea),a,vs,rfl,.inl rfl,.inl k1,by rw[k3,k2.length,← r1.length],r1.mono (qbz w1 H a)⟩
       | obj C fs xs =>
         dsimp only at q
         cases e1:frzs n xs S with
         | none=>rw[e1]at q;cases q
         | some p =>
           obtain ⟨ys,S1⟩:=p
           rw[e1]at q
           cases q
           obtain ⟨_,dx,vs,k1,k3,k2⟩:=ce
           obtain ⟨w1,l1,h1,r1⟩:=qgh (fun {d e S S' w v} q h r=>qha (n:=n) q h r) e1 h k2
           exact⟨w1.fix a,l1.trans (qbz w1 H a),qdw h1 (l1.at_ ea),a,dx,vs,rfl,.inl rfl,k1,by rw[k3,k2.length,← r1.length],r1.mono (qbz w1 H a)⟩
theorem q3a {X:Cx} {E:XW} {e:Expr} {f:Env→M D} (h:PE X e (tD E f)):PE X e (tD E fun Γ=>M.bind (f Γ) qh6):=by
 refine PE.mono h fun σ H Q ⟨w,Γ,S,rel,hold,q⟩=> ?_
 refine qe (k:=fun d _=>qh6 d) rel hold q fun dx x S1 w1 H1 l1 rel1 h1 rx q1=> ?_
 unfold qh6 at q1
 cases e1:frz 3 dx S1 with
 | none=>rw[e1]at q1;exact False.elim q1
 | some p =>
   obtain ⟨d1,S2⟩:=p
   rw[e1]at q1
   obtain ⟨w2,l2,h2,r2⟩:=qha e1 h1 rx
   exact q1 w2 H1 l2 h2 x r2
noncomputable def ghS (i:Nat) (f:MS):MS:=fun Γ=>M.bind (qdz i Γ) fun x=>M.bind (qh6 x) fun d=>f (Γ.set i (some d))
theorem q49 {X:Cx} {E:XW} {ss:List Stmt} {f:MS} {i:Nat} (h:PSs X ss (tS E f)):PSs X ss (tS E (ghS i f)):=by
 refine PSs.mono h fun D σ H ⟨w,Γ,S,rel,hold,q⟩=> ?_
 unfold ghS qdz at q
 cases e:Γ[i]? with
 | none=>rw[e]at q;exact False.elim q
 | some o =>
   cases o with
   | none=>rw[e]at q;exact False.elim q
   | some x =>
     rw[e]at q
     obtain ⟨v,hv,rv⟩:=rel.at_ i x e
     have q:Wp E w H (M.bind (qh6 x) (fun d=>f (Γ.set i (some d))) S) (qbb D):=q
     unfold M.bind qh6 at q
     cases e1:frz 3 x S with
     | none=>rw[e1]at q;exact False.elim q
     | some p =>
       obtain ⟨d1,S2⟩:=p
       rw[e1]at q
       obtain ⟨w2,l2,h2,r2⟩:=qha e1 hold rv
       refine⟨w2,Γ.set i (some d1),S2,?_,h2,Wp.later q l2⟩
       have:=(rel.mono l2).set (i:=i) r2
       have es:σ.set i (some v)=σ:=by
         obtain ⟨hl,e⟩:=List.getElem?_eq_some_iff.mp hv
         rw[← e];exact List.set_getElem_self hl
       rwa [es]at this
noncomputable def isL (d:D):Bool:=match d with
 | .lst _=>true
 | _=>false
noncomputable def isS (d:D):Bool:=match d with
 | .str _=>true
 | _=>false
noncomputable def mtD (isT:D→Bool) (f:Env→M D) (fs:Env→M (List D)) (k:D→List D→M D) (Γ:Env):M D:=M.bind (f Γ) fun o S=>(if isT (look o S)then M.bind (fs Γ) (k o)else M.fail) S
noncomputable def MtT (X:Cx) (id:String) (k:D→List D→M D):Prop:=∃ r:V→List V→Hp→VK→Prop,MtM X id r∧∀ (E:XW) w H S o ds x vs Q,qf w H S→Rep w H o x→qb w H ds vs→Wp E w H (k o ds S) (PV Q)→r x vs H Q
section
variable {X:Cx} {E:XW} {T id:String} {name:Str} {o e:Expr} {es:List Expr} {f:Env→M D} {fs:Env→M (List D)} {k:D→List D→M D} {apos cpos:Pos} {isT:D→Bool}
theorem qm5 (pa:PlainAttrs T) (slot:Slot T name id) (hty:typeOf (.builtin id)=pure (.type "method_descriptor")) (hm:MtT X id k) (hT:∀ w H S d v,qf w H S→Rep w H d v→isT (look d S)=true→tyV X.K T v H) (ho:PE X o (tD E f)) (ha:PA X (e::es) (tL E fs))
   (hbase:attributeBase o name X.env (eval o X.env)=eval o X.env)
   (hfew:((backTo cpos (starEach (e::es) X.env)).all (fun x=> !x.1) && (backToKw cpos (keywordEach [] X.env)).all (fun x=>x.1.isSome) && decide ((e::es).length+([]:List Keyword).length+(if ([]:List Keyword).isEmpty then 0 else 1) < 30))=true)
   (hline:(apos.endLine==cpos.line)=true) (hs:starEach (e::es) X.env=(false,eval e X.env)::starEach es X.env) (hplain:(backTo cpos (starEach es X.env)).any (·.1)=false) :
   PE X (.Call (.Attribute o name apos) (e::es) [] cpos) (tD E (mtD isT f fs k)):=by
 obtain ⟨r,hmt,hk⟩:=hm
 refine PE.mono (q1v pa slot hty hmt ho ha hbase hfew hline hs hplain) fun σ H Q ⟨w,Γ,S,rel,hold,q⟩=> ?_
 refine qe (k:=fun o Γ S=>(if isT (look o S)then M.bind (fs Γ) (k o)else M.fail) S) rel hold q fun dx x S1 w1 H1 l1 rel1 h1 rx q1=> ?_
 obtain ⟨ht,q1⟩:=Wp.iteF q1
 exact⟨hT w1 H1 S1 dx x h1 rx ht,qa1 (k:=fun ds _=>k dx ds) rel1 h1 q1 fun ds vs S2 w2 H2 l2 rel2 h2 rv q2=>hk E w2 H2 S2 dx ds x vs Q h2 (rx.mono l2) rv q2⟩
theorem qhb (pa:PlainAttrs T) (slot:Slot T name id) (hty:typeOf (.builtin id)=pure (.type "method_descriptor")) (hm:MtT X id k) (hT:∀ w H S d v,qf w H S→Rep w H d v→isT (look d S)=true→tyV X.K T v H) (ho:PE X o (tD E f))
   (hbase:attributeBase o name X.env (eval o X.env)=eval o X.env) (hline:(apos.endLine==cpos.line)=true) :
   PE X (.Call (.Attribute o name apos) [] [] cpos) (tD E (mtD isT f (fun _=>M.pure []) k)):=by
 obtain ⟨r,hmt,hk⟩:=hm
 refine PE.mono (qxw pa slot hty hmt ho hbase hline) fun σ H Q ⟨w,Γ,S,rel,hold,q⟩=> ?_
 refine qe (k:=fun o Γ S=>(if isT (look o S)then M.bind (M.pure []) (k o)else M.fail) S) rel hold q fun dx x S1 w1 H1 l1 rel1 h1 rx q1=> ?_
 obtain ⟨ht,q1⟩:=Wp.iteF q1
 exact⟨hT w1 H1 S1 dx x h1 rx ht,hk E w1 H1 S1 dx [] x [] Q h1 rx rfl q1⟩
theorem qh7 (w:Wd) (H:Hp) (S:Sto) (d:D) (v:V) (h:qf w H S) (r:Rep w H d v) (e:isL (look d S)=true):tyV X.K "list" v H:=by
 cases e1:look d S <;> rw[e1]at e <;> first | (cases e;done) | skip
 obtain ⟨p,vs,rfl,hp,_⟩:=qk h r e1
 exact .inl ⟨rfl,vs,SqL.of hp⟩
theorem qup (w:Wd) (H:Hp) (S:Sto) (d:D) (v:V) (h:qf w H S) (r:Rep w H d v) (e:isS (look d S)=true):tyV X.K "str" v H:=by
 cases e1:look d S <;> rw[e1]at e <;> first | (cases e;done) | skip
 rw[qa8 r e1]
 rfl
noncomputable def qcl (o:D) (g:List D→Option (D × List D)):M D:=fun S=>match o with
 | .ref l=>match S[l]? with
   | some (.lst xs)=>match g xs with
     | some (d,ys)=>.ok d (S.set l (.lst ys))
     | none=>.no
   | _=>.no
 | _=>.no
theorem qde {w:Wd} {H:Hp} {S:Sto} {o:D} {x:V} {g:List D→Option (D × List D)} {Q:VK} (h:qf w H S) (r:Rep w H o x) (q:Wp E w H (qcl o g S) (PV Q)) :
   ∃ a xs vs d ys,x=.ref a∧H a=some (.lst vs)∧qb w H xs vs∧g xs=some (d,ys)∧∀ us,qb w H ys us→∀ v,Rep w H d v→Q v (upd H a (.lst us)):=by
 unfold qcl at q
 cases o <;> first | exact False.elim q | skip
 rename_i l
 dsimp only at q
 obtain ⟨a,ea,rfl⟩:=r
 cases e:S[l]? with
 | none=>rw[e]at q;exact False.elim q
 | some c =>
   rw[e]at q
   have ce:=h.cell l a c ea e
   cases c <;> first | exact False.elim q | skip
   rename_i xs
   dsimp only at q
   cases e1:g xs with
   | none=>rw[e1]at q;exact False.elim q
   | some p =>
     obtain ⟨d,ys⟩:=p
     rw[e1]at q
     obtain ⟨nz,vs,ha,hvs⟩:=ce
     exact⟨a,xs,vs,d,ys,rfl,ha,hvs,e1,fun us hu v rv=>q _ _ (qaz nz) (qdv h ea nz ⟨nz,us,qg,hu.mono (qaz nz)⟩) v (rv.mono (qaz nz))⟩
noncomputable def qjv (o:D) (ds:List D):M D:=match ds with
 | [d]=>qcl o fun xs=>if decide (xs.length < sizeLine)then some (.non,xs++[d])else none
 | _=>M.fail
theorem qhc:MtT X "list.append" qjv:=by
 refine⟨_,qpa,fun E w H S o ds x vs Q h r rv q=> ?_⟩
 unfold qjv at q
 split at q
 case h_2=>exact False.elim q
 case h_1 d =>
   obtain ⟨v,rfl,rd⟩:=rv.one_
   obtain ⟨a,xs,us,d',ys,rfl,ha,hus,e,k⟩:=qde h r q
   split at e
   · rename_i hz
     cases e
     exact⟨a,us,v,rfl,rfl,ha,by rw[← hus.length];exact of_decide_eq_true hz,k _ (hus.append (qb.one rd)) _ rfl⟩
   · cases e
noncomputable def qjw (o:D) (ds:List D):M D:=match ds with
 | [.int j,d]=>qcl o fun xs=>if decide (xs.length < sizeLine) && decide (0≤j) && decide (j≤xs.length)then some (.non,xs.take j.toNat++d::xs.drop j.toNat)else none
 | _=>M.fail
theorem qhd:MtT X "list.insert" qjw:=by
 refine⟨_,qpl,fun E w H S o ds x vs Q h r rv q=> ?_⟩
 unfold qjw at q
 split at q
 case h_2=>exact False.elim q
 case h_1 j d =>
   obtain ⟨v,v',rfl,rj,rd⟩:=rv.two_
   cases (show v=.int j from rj)
   obtain ⟨a,xs,us,d',ys,rfl,ha,hus,e,k⟩:=qde h r q
   split at e
   · rename_i hz
     rw[Bool.and_eq_true,Bool.and_eq_true]at hz
     cases e
     refine⟨a,us,j,v',rfl,rfl,of_decide_eq_true hz.1.2,?_,ha,by rw[← hus.length];exact of_decide_eq_true hz.1.1,k _ ((hus.take _).append (qb.cons rd (hus.drop _))) _ rfl⟩
     rw[← hus.length];exact of_decide_eq_true hz.2
   · cases e
noncomputable def qzw (o:D) (ds:List D):M D:=match ds with
 | []=>qcl o fun xs=>match xs.getLast? with
   | some d=>some (d,xs.dropLast)
   | none=>none
 | _=>M.fail
theorem qb.dropLast {w:Wd} {H:Hp} {ds:List D} {vs:List V} (h:qb w H ds vs):qb w H ds.dropLast vs.dropLast:=by
 rw[List.dropLast_eq_take,List.dropLast_eq_take,h.length]
 exact h.take _
theorem qod:MtT X "list.pop" qzw:=by
 refine⟨_,qxx,fun E w H S o ds x vs Q h r rv q=> ?_⟩
 unfold qzw at q
 split at q
 case h_2=>exact False.elim q
 case h_1 =>
   cases rv.nil_
   obtain ⟨a,xs,us,d',ys,rfl,ha,hus,e,k⟩:=qde h r q
   split at e
   · rename_i d hd
     cases e
     rw[List.getLast?_eq_getElem?]at hd
     obtain ⟨y,e1,e2⟩:=hus.get hd
     exact⟨a,us,y,rfl,rfl,ha,by rw[← hus.length];exact e1,k _ hus.dropLast _ e2⟩
   · cases e
noncomputable def qm6 (o:D) (ds:List D):M D:=match ds with
 | []=>qcl o fun _=>some (.non,[])
 | _=>M.fail
theorem qi3:MtT X "list.clear" qm6:=by
 refine⟨_,qqx,fun E w H S o ds x vs Q h r rv q=> ?_⟩
 unfold qm6 at q
 split at q
 case h_2=>exact False.elim q
 case h_1 =>
   cases rv.nil_
   obtain ⟨a,xs,us,d',ys,rfl,ha,hus,e,k⟩:=qde h r q
   cases e
   exact⟨a,us,rfl,rfl,ha,k _ rfl _ rfl⟩
noncomputable def joinM (o:D) (ds:List D):M D:=match o,ds with
 | .str z,[d]=>fun S=>match look d S with
   | .lst xs=>match strsOf xs with
     | some ys=>(if decide ((ys.map (·.length)).sum+ys.length * z.length≤16777216)then M.pure (.str (PySem.Txt.join z ys))else M.fail) S
     | none=>.no
   | _=>.no
 | _,_=>M.fail
theorem qln:MtT X "str.join" joinM:=by
 refine⟨_,qub,fun E w H S o ds x vs Q h r rv q=> ?_⟩
 unfold joinM at q
 split at q
 case h_2=>exact False.elim q
 case h_1 z d =>
   obtain ⟨v,rfl,rd⟩:=rv.one_
   cases e1:look d S <;> rw[e1]at q <;> first | exact False.elim q | skip
   rename_i xs
   dsimp only at q
   cases e2:strsOf xs with
   | none=>rw[e2]at q;exact False.elim q
   | some ys =>
     rw[e2]at q
     obtain ⟨hz,q⟩:=Wp.iteF q
     obtain ⟨p,us,rfl,hp,hus⟩:=qk h rd e1
     exact⟨z,p,ys,r,rfl,by rw[← qg5 e2 hus];exact SqL.of hp,of_decide_eq_true hz,now h (d:=.str _) rfl q⟩
end
noncomputable def qm7 (k:Int):List Int→Option Nat
 | []=>none
 | x::r=>if x=k then some 0 else (qm7 k r).map (·+1)
theorem qoe {k:Int}:∀ {ns:List Int} {j:Nat},qm7 k ns=some j→ns[j]? =some k∧∀ i < j,∀ x,ns[i]? =some x→x ≠ k
 | [],_,h=>by cases h
 | x ::r,j,h=>by
   unfold qm7 at h
   by_cases e:x=k
   · rw[if_pos e]at h;cases h
     exact⟨by simp [e],fun i hi=>by omega⟩
   · rw[if_neg e]at h
     cases e1:qm7 k r with
     | none=>rw[e1]at h;cases h
     | some m =>
       rw[e1]at h;cases h
       obtain ⟨a,b⟩:=qoe e1
       refine⟨by simpa using a,fun i hi y hy=> ?_⟩
       cases i with
       | zero=>simp at hy;subst hy;exact e
       | succ i=>exact b i (by simp at hi;omega) y (by simpa using hy)
section
variable {X:Cx}
noncomputable def qzx:V→List V→Hp→VK→Prop:=fun x vs H Q=>∃ (l:Addr) (ns:List Int) (k:Int) (j:Nat),x=.ref l∧vs=[.int k]∧H l=some (.lst (ns.map V.int))∧qm7 k ns=some j∧Q (.int j) H
noncomputable def isI (k:Int):Value→Bool
 | .int a _=>a==k
 | _=>false
theorem qr0:MtM X "list.index" qzx:=by
 intro pins s σ H x vs v us Q I rx rv h
 obtain ⟨l,ns,k,j,rfl,rfl,hH,hj,q⟩:=h
 cases rx
 obtain ⟨u,rfl,ru⟩:=rv.one
 obtain ⟨t,rfl⟩:=ru
 obtain ⟨z,its,n,r,hl,e⟩:=I.lstM hH
 obtain ⟨h1,h2⟩:=qoe hj
 have hs:sizeLine=16777216:=sizeLine_eq
 have at_:∀ (i:Nat) (y:Value),its[i]? =some y→∃ a t,ns[i]? =some a∧y=.int a t:=fun i y hy=>by
   have hi:i < (ns.map V.int).length:=by rw[hl];exact(List.getElem?_eq_some_iff.mp hy).1
   obtain ⟨y',hy',ry⟩:=r.get (List.getElem?_eq_getElem hi)
   rw[hy]at hy';cases hy'
   rw[List.getElem_map]at ry
   obtain ⟨t,rfl⟩:=ry
   exact⟨_,t,List.getElem?_eq_getElem (by simpa using hi),rfl⟩
 have hjl:j < its.length:=by
   have:=(List.getElem?_eq_some_iff.mp h1).1
   rw[← hl];simpa using this
 refine call_meets PySem.F.slot_list_index ⟨_,e,rfl⟩ PySem.F.entry_list_index (PySem.F.args_list_index_2 _ _) (MeetsSeq.list_index l its.toArray n (.int k t) (isI k) (fun y hy=> ?_) j (by simpa using hjl) (by rw[List.length_map]at z hl;omega) ?_ fun m hm hlt=> ?_) ⟨e,⟨.int j,H,I.tok _,⟨_,rfl⟩,q⟩⟩
 · obtain ⟨i,hi⟩:=List.getElem?_of_mem (by simpa using hy:y ∈ its)
   obtain ⟨a,t',_,rfl⟩:=at_ i y hi
   exact MeetsSeq.EqGives.int a k t' t
 · obtain ⟨a,t',ha,hy⟩:=at_ j its[j] (List.getElem?_eq_getElem hjl)
   rw[h1]at ha;cases ha
   show isI k its[j]=true
   rw[hy];simp [isI]
 · have hm:m < its.length:=by simpa using hm
   obtain ⟨a,t',ha,hy⟩:=at_ m its[m] (List.getElem?_eq_getElem hm)
   show isI k its[m]=false
   rw[hy];simp [isI]
   exact h2 m hlt a ha
noncomputable def qm8 (o:D) (ds:List D):M D:=fun S=>match look o S,ds with
 | .lst xs,[.int k]=>match intsOf xs with
   | some ns=>match qm7 k ns with
     | some j=>.ok (.int j) S
     | none=>.no
   | none=>.no
 | _,_=>.no
theorem qi4:MtT X "list.index" qm8:=by
 refine⟨_,qr0,fun E w H S o ds x vs Q h r rv q=> ?_⟩
 unfold qm8 at q
 split at q
 case h_2=>exact False.elim q
 case h_1 xs k e1 =>
   obtain ⟨v,rfl,rd⟩:=rv.one_
   cases e2:intsOf xs with
   | none=>rw[e2]at q;exact False.elim q
   | some ns =>
     rw[e2]at q
     dsimp only at q
     cases e3:qm7 k ns with
     | none=>rw[e3]at q;exact False.elim q
     | some j =>
       rw[e3]at q
       obtain ⟨p,us,rfl,hp,hus⟩:=qk h r e1
       cases (show v=.int k from rd)
       exact⟨p,ns,k,j,rfl,rfl,by rw[hp,qa2 e2 hus],e3,now h (d:=.int _) rfl q⟩
end
noncomputable def notStar:Expr→Bool
 | .Starred _ _=>false
 | _=>true
noncomputable def qbq:Expr→Bool
 | .Set _ _ _=>false
 | _=>true
noncomputable def qb2:Expr→Bool
 | .Slice _ _ _ _=>false
 | _=>true
noncomputable def plainT:Expr→Bool
 | .UnaryOp _ _ _=>false
 | .BoolOp _ _ _=>false
 | .IfExp _ _ _ _=>false
 | .Compare _ _ _ _=>false
 | _=>true
noncomputable def qhe:Expr→Bool
 | .Call (.Name _ _) _ _ _=>false
 | _=>true
noncomputable def qdf:Expr→Bool
 | .ListComp _ _ _ _=>false
 | .SetComp _ _ _ _=>false
 | .DictComp _ _ _ _ _=>false
 | _=>true
noncomputable def qjx:Expr→Bool
 | .Tuple _ _ _=>false
 | .List _ _=>false
 | _=>true
theorem qr {e:Expr} {es:List Expr} {env:PySem.Env} (h:notStar e=true):starEach (e::es) env=(false,eval e env)::starEach es env:=by
 cases e <;> first | rfl | cases h
theorem qhf:∀ {es:List Expr} {env:PySem.Env},es.all notStar=true→(starEach es env).all (fun x=> !x.1)=true
 | [],_,_=>rfl
 | e::es,env,h=>by
   rw[List.all_cons,Bool.and_eq_true]at h
   rw[qr h.1,List.all_cons,qhf h.2]
   rfl
theorem qlo {pos:Pos} {l:List (Bool × Sem Value)} (h:l.all (fun x=> !x.1)=true):(backTo pos l).all (fun x=> !x.1)=true:=by
 unfold backTo
 rw[List.all_map]
 exact h
theorem qc4 {pos:Pos} {es:List Expr} {env:PySem.Env} (h:es.all notStar=true):(backTo pos (starEach es env)).any (·.1)=false:=by
 have:=qlo (pos:=pos) (qhf (env:=env) h)
 rw[List.any_eq_false]
 intro x hx
 have:=List.all_eq_true.mp this x hx
 simpa using this
theorem qzy {cpos:Pos} {e:Expr} {es:List Expr} {env:PySem.Env} (h:(e::es).all notStar=true) (hl:(e::es).length < 30) :
   ((backTo cpos (starEach (e::es) env)).all (fun x=> !x.1) && (backToKw cpos (keywordEach [] env)).all (fun x=>x.1.isSome) && decide ((e::es).length+([]:List Keyword).length+(if ([]:List Keyword).isEmpty then 0 else 1) < 30))=true:=by
 rw[qlo (qhf h)]
 simp only [keywordEach,backToKw,List.map_nil,List.all_nil,Bool.and_true,Bool.true_and,List.length_nil,List.isEmpty_nil,if_true,Nat.add_zero]
 exact decide_eq_true hl
theorem qhg {op:CmpOp} {b:Expr} (h:qbq b=true):behindInMarks op b=false:=by
 cases b <;> first | rfl | cases h
theorem qi5 {op op':CmpOp} {b c:Expr} (h:qbq c=true):lastMarks [op,op'] [b,c]=false:=by
 show behindInMarks op' c=false
 exact qhg h
theorem qlp {b:Expr} (h:qb2 b=true):qji b:=by
 intro o i
 cases b <;> first | rfl | cases h
theorem quq {a:Expr} {env:PySem.Env} (h:plainT a=true):∀ whole,isTrue a env whole=(do let v ← whole;standAt a.pos;holding [v] (truthy v)):=by
 intro whole
 cases a <;> first | rfl | cases h
theorem qas {o:Expr} {name:Str} {env:PySem.Env} (h:qhe o=true):attributeBase o name env (eval o env)=eval o env:=by
 unfold attributeBase
 cases o <;> first | rfl | skip
 rename_i fn args kw pos
 cases fn <;> first | rfl | cases h
theorem qbe {it:Expr} {env:PySem.Env} (h:qbq it=true):∀ x,foldedSetIterable it env x=pure x:=by
 intro x
 unfold foldedSetIterable
 cases it <;> first | rfl | cases h
theorem qc5 {e:Expr} {t:Option Expr} {n:Nat} {env:PySem.Env} (h:qdf e=true):swapsWith e t n env=pure false:=by
 unfold swapsWith
 cases e <;> first | rfl | cases h
theorem qof {e t:Expr} {n:Nat} {env:PySem.Env} (h:qdf e=true):swapsWithSole [t] e n env=pure false:=qc5 h
theorem qpv {t e:Expr} {env:PySem.Env} (h:(qjx t || qjx e)=true):swappedStores [t] e env=pure none:=by
 unfold swappedStores
 cases t <;> first | rfl | (cases e <;> first | rfl | cases h)
theorem qfb {e:Expr} {es:List Expr} {env:PySem.Env} (h:notStar e=true):assignEach (e::es) env=(false,assign e env)::assignEach es env:=by
 cases e <;> first | rfl | cases h
theorem qi6:∀ {es:List Expr} {env:PySem.Env},(assignEach es env).length=es.length
 | [],_=>rfl
 | e::es,env=>by
   have:=qi6 (es:=es) (env:=env)
   cases e <;> simp [assignEach,this]
theorem qlq:∀ {es:List Expr} {env:PySem.Env},es.all notStar=true→(assignEach es env).findIdx? (·.1)=none
 | [],_,_=>rfl
 | e::es,env,h=>by
   rw[List.all_cons,Bool.and_eq_true]at h
   rw[qfb h.1,List.findIdx?_cons,qlq h.2]
   rfl
theorem qur {o i:Expr} {pos:Pos} {env:PySem.Env} (h:qb2 i=true):∀ v,assign (.Subscript o i pos) env v=(do
     let ov ← holding [v] (eval o env)
     let iv ← holding [v,ov] (eval i env)
     standAt pos
     holding [v,ov,iv] (setItem ov iv v)
     release [v,ov,iv] []):=by
 intro v
 cases i <;> first | rfl | cases h
theorem qzz {i:Expr} (h:qb2 i=true):∀ ov iv new,augStore i ov iv new=(do holding [new,ov,iv] (setItem ov iv new);release [new,ov,iv] [];pure .next):=by
 intro ov iv new
 cases i <;> first | rfl | cases h
noncomputable def swB (sc:Scope) (scope:Scope) (vl tl:Nat) (x:Str):Bool :=
 (if sc.kind.isAnnotationScope then ScopeKind.function else sc.kind)==.function && sc.names.lookup x==some .local && tl==vl && !(scope.names.any fun (n,k)=>n==x && (k==.local || k==.cell))
theorem qr1 {elt:Expr} {gens:List Comprehension} {scope:Scope} {pos p:Pos} {x:Str} {n:Nat} {env:PySem.Env}:swapsWith (.ListComp elt gens scope pos) (some (.Name x p)) n env=pure (swB env.scope scope pos.line p.line x):=rfl
theorem qog {k v:Expr} {gens:List Comprehension} {scope:Scope} {pos p:Pos} {x:Str} {n:Nat} {env:PySem.Env}:swapsWith (.DictComp k v gens scope pos) (some (.Name x p)) n env=pure (swB env.scope scope pos.line p.line x):=rfl
noncomputable def qus (sc:Scope) (x y:Str) (px py:Pos) (a b:Expr):Bool :=
 (if sc.kind.isAnnotationScope then ScopeKind.function else sc.kind)==.function && notStar a && notStar b && sc.names.lookup x==some .local && sc.names.lookup y==some .local && px.line==py.line && !(x==y) && !([a,b].all (foldedForSure 8)) && !([a,b].all (constantsAlone 8))
theorem qut {x y:Str} {px py pt pt2:Pos} {a b:Expr} {kt k2:Nat} {env:PySem.Env} (h:qus env.scope x y px py a b=true):swappedStores [.Tuple [.Name x px,.Name y py] kt pt] (.Tuple [a,b] k2 pt2) env=pure (some [x,y]):=by
 unfold qus at h
 simp only [Bool.and_eq_true,Bool.not_eq_true']at h
 obtain ⟨⟨⟨⟨⟨⟨⟨⟨h1,h2⟩,h3⟩,h4⟩,h5⟩,h6⟩,h7⟩,h8⟩,h9⟩:=h
 unfold swappedStores
 have hk:env.blockKind=.function:=by simpa [Env.blockKind]using h1
 have hx:env.kindOf x=some .local:=by simpa [Env.kindOf]using h4
 have hy:env.kindOf y=some .local:=by simpa [Env.kindOf]using h5
 have hl:px.line=py.line:=by simpa using h6
 have hxy:x ≠ y:=by simpa using h7
 have hxy':(y==x)=false:=by simpa using Ne.symm hxy
 have pn:∀ (x:Str) (p:Pos),(Expr.Name x p).pos=p:=fun _ _=>rfl
 simp only [List.length_cons,List.length_nil,hk,bne_self_eq_false,Bool.or_false,List.any_cons,List.any_nil,List.head?_cons,Option.map_some,Option.getD_some,pn,List.filterMap_cons,List.filterMap_nil,hx,hy,hl,h8,h9]
 simp [List.eraseDups_cons,hxy']
 rintro (z | z)
 · exfalso
   clear h8 h9
   cases a <;> first | (cases z;done) | (cases h2;done)
 · exfalso
   clear h8 h9
   cases b <;> first | (cases z;done) | (cases h3;done)
end T3
namespace L2
open PySem PySem.Spec PyProof.Rows
section
variable {X:Cx} {pins:List (Addr × Obj)} {σ:St} {H:Hp} {s:Shared} {a:Addr} {kvs:List (Key × V)}
theorem Inv.fzd (I:Inv X pins σ H s) (h:Rd H a (.dK kvs)):∃ o,s.heap.get? a=some o∧∃ H',Inv X pins σ H' s∧H' a=some (.frz o (.dK kvs))∧(H' a=H a∨H a=some (.dK kvs))∧(∀ b,b ≠ a→H' b=H b):=by
 rcases h with h | ⟨o,h⟩
 · obtain ⟨z,hd,vs,rel,ob,es,ep,e,r⟩:=I.hok a _ h
   have nt:∀ b u,H b=some u→(∀ k,u ≠ .dK k)→b ≠ a:=fun b u hb hu z=>by subst z;rw[h]at hb;cases hb;exact hu _ rfl
   refine⟨ob,e,upd H a (.frz ob (.dK kvs)),?_,qg,.inr h,fun b hb=>qc hb⟩
   have ok:HOk X.prog X.w (upd H a (.frz ob (.dK kvs))) s.heap:=fun b u hb=>by
     by_cases hab:b=a
     · subst hab
       rw[qg]at hb
       cases hb
       exact⟨e,z,hd,vs,rel,ob,es,ep,e,r⟩
     · rw[qc hab]at hb
       exact(I.hok b u hb).stay (fun _ _ _ q=>q) (fun c hc=>by rw[qc (nt c _ hc (by intro k z;cases z))];exact hc) (fun c xs hc=>by rw[qc (nt c _ hc (by intro k z;cases z))];exact hc)
   exact I.un (h':=s.heap) (t':=s.toks) ⟨fun b o q _ _ _=>q,fun b o q _ _ _=>⟨o.slots,q⟩,fun b o _ n _=>by rw[qc (fun z=>by subst z;rw[h]at n;cases n)];exact n,fun b o q _=>⟨o,q⟩,
     fun b xs q=>by rw[qc (nt b _ q (by intro k z;cases z))];exact q,fun b o u q=>by rw[qc (nt b _ q (by intro k z;cases z))];exact q,fun b ps q=>⟨#[],by rw[qc (nt b _ q (by intro k z;cases z)),q];simp⟩⟩ ok
 · exact⟨o,(I.hok a _ h).1,H,I,h,.inl rfl,fun _ _=>rfl⟩
theorem Inv.dictAt {o:Obj} {es:Array DictEntry} {ep:Nat} (I:Inv X pins σ H s) (h:H a=some (.frz o (.dK kvs))) (hd:o.data=.dict es ep):∃ vs,KV kvs vs∧s.heap.DictAt (qm X.prog X.w) a vs ep:=by
 obtain ⟨e,_,_,vs,rel,ob,es',ep',e',x1,x2,x3⟩:=I.hok a _ h
 rw[e]at e';cases e'
 rw[hd]at x2
 cases x2
 exact⟨vs,rel,o,es,e,x1,hd,x3⟩
noncomputable def Itk (a:Addr) (o:Obj) (kvs:List (Key × V)):It :=
 ⟨fun i H=>H a=some (.frz o (.dK kvs))∧i < kvs.length,fun i H x H'=>H'=H∧∃ k v,kvs[i]? =some (k,v)∧x=kV k,fun i H=>H a=some (.frz o (.dK kvs))∧kvs.length≤i⟩
theorem qoh {P:Program} {w:World} {k:Key} {u:Value} (h:(qm P w).is k u=true):RelV (kV k) u:=by
 rw[qmf]at h
 rcases qy h with ⟨i,t,rfl,rfl⟩ | ⟨x,t,rfl,rfl⟩
 · exact⟨t,rfl⟩
 · exact⟨t,rfl⟩
theorem KV.get {kvs:List (Key × V)} {vs:List (Key × Value)} (r:KV kvs vs) {i:Nat} {k:Key} {v:V} (h:kvs[i]? =some (k,v)):∃ u,vs[i]? =some (k,u)∧RelV v u:=by
 induction r generalizing i with
 | nil=>simp at h
 | @cons x y xs ys hr t ih =>
   cases i with
   | zero =>
     simp at h
     subst h
     obtain ⟨k',u⟩:=y
     obtain ⟨rfl,r⟩:=hr
     exact⟨u,rfl,r⟩
   | succ i =>
     obtain ⟨u,e,r⟩:=ih (by simpa using h)
     exact⟨u,by simpa using e,r⟩
theorem qpw {P:Program} {w:World} {K:PySem.W.Frag} {tg:Expr} {o:Obj} {es:Array DictEntry} {ep:Nat} (hd:o.data=.dict es ep) (it:Addr):Turn P w K tg (Itk a o kvs) [it] it (fun i h=>h.IsKeyIter it a i kvs.length ep) where
 mem:=by simp
 obj:=fun i h st b hb=>by
   have e:b=it:=by simpa using hb
   subst e
   obtain ⟨o,e,c,d⟩:=st
   exact⟨o,e,fun v z=>by rw[d]at z;cases z⟩
 keep:=fun i h h' st k=>st.at fun o e=>k it (by simp) o e
 item:=by
   intro X hP hw hK hc i pins s σ H E I hf st hg
   subst hP hw hK
   obtain ⟨hg,hi⟩:=hg
   obtain ⟨vs,rel,da⟩:=I.dictAt hg hd
   obtain ⟨⟨k,v⟩,hx⟩:∃ p,kvs[i]? =some p:=⟨_,List.getElem?_eq_getElem hi⟩
   obtain ⟨u,hu,ru⟩:=rel.get hx
   obtain ⟨f0,f1,f2,f3,f4,f5⟩:=hf it (by simp)
   rw[rel.length]at st
   refine wpAny_pyNext_dict_item st da hu fun key h' hkey st' sb=> ?_
   have I1:Inv X pins σ H { s with heap:=h' }:=I.turned (t':=s.toks) (fun b o hb e=>(sb.2 b hb).trans e) f0 f1 f3 f4 f5
   obtain ⟨o,e,c,d⟩:=id st'
   exact⟨key,rfl,qky (s:={ s with heap:=h' }) e c d (by decide) ⟨kV k,H,I1,qoh hkey,⟨rfl,k,v,hx,rfl⟩,by rw[rel.length];exact st',fun b hb=>(hf b hb).1⟩⟩
 done:=by
   intro X hP hw hK hc i pins s σ H E I hf st hg
   subst hP hw hK
   obtain ⟨hg,hi⟩:=hg
   obtain ⟨vs,rel,da⟩:=I.dictAt hg hd
   obtain ⟨f0,f1,f2,f3,f4,f5⟩:=hf it (by simp)
   rw[rel.length]at st hi
   exact wpAny_pyNext_dict_end (I.ok.hd hc) st da (List.getElem?_eq_none_iff.mpr hi) fun h' eb=>⟨rfl,I.turned (t':=s.toks) (fun b o hb e=>eb b o hb e) f0 f1 f3 f4 f5⟩
 self:=fun _ _ _ _ _ st h=>wpAny_pyIter_keyiter st h
noncomputable def q3b (tl:TE):TI:=fun σ H R=>tl σ H fun x H1=>∃ a kvs,x=.ref a∧Rd H1 a (.dK kvs)∧∀ o H2,H2 a=some (.frz o (.dK kvs))→(H2 a=H1 a∨H1 a=some (.dK kvs))→(∀ b,b ≠ a→H2 b=H1 b)→R (Itk a o kvs) H2
theorem quu {tg l:Expr} {tl:TE} (hl:PE X l tl):PI X tg l (q3b tl):=by
 intro pins s σ H R I h
 refine thn (hl pins s σ H _ I h) fun v s1 ⟨x,H1,I1,r1,q1⟩=> ?_
 obtain ⟨a,kvs,e,hd,q⟩:=q1
 subst e
 cases r1
 obtain ⟨o,ho,H2,I2,e2,e4,e3⟩:=I1.fzd hd
 obtain ⟨_,_,hs,vs,rel,ob,es,ep,e',x1,x2,x3⟩:=I2.hok a _ e2
 rw[ho]at e';cases e'
 obtain ⟨vs,rel,da⟩:=I2.dictAt e2 x2
 refine wpAny_pyIter_dict hs da ?_
 refine⟨s1.heap.objs.size,[s1.heap.objs.size],_,_,H2,rfl,I2.kept (t':=s1.toks) fun b o e=>Heap.get?_push_of_some _ e,qpw (a:=a) (kvs:=kvs) x2 _,⟨_,Heap.get?_push_size _ rfl,rfl,by rw[rel.length];rfl⟩,fun b hb=> ?_,q o H2 e2 e4 e3⟩
 have e:b=s1.heap.objs.size:=by simpa using hb
 subst e
 exact I2.fpOk (Nat.le_refl _) (I2.hok.fresh (Nat.le_refl _))
end
theorem qjy {prog:Program} {w:World} {A:Around} {R:Result→Shared→Prop} {kx vx target iter:Expr} {ifs:List Expr} {scope:Scope} {pos:Pos} {it:Value} {D:Addr} {env:Env} {s:Shared} (I:Nat→Shared→Prop)
   (turn : ∀ n s,I n s→wpAny (model prog w) A (pyNext it) (fun r s₁=>match r with
     | none=>R (.ok .next) s₁
     | some v=>wpAny (model prog w) A (letOwnedTupleGo target it v) (fun _ s₁'=>wpAny (model prog w) A (assign target env v) (fun _ s₂ =>
         wpAny (model prog w) A (forIn ifs true fun c r=>if r=true then do let ok ← isTrue c env (eval c env);pure (ForInStep.yield ok)else pure (ForInStep.yield r)) (fun ok s₃ =>
           if ok=true then wpAny (model prog w) A (eval kx env) (fun x s₄=>wpAny (model prog w) A (eval vx env) (fun y s₅ =>
             wpAny (model prog w) A (dictSet D x y) (fun _ s₆=>∃ m,m < n∧I m s₆) (fun _ _=>False) s₅) (fun _ _=>False) s₄) (fun _ _=>False) s₃
           else ∃ m,m < n∧I m s₃) (fun _ _=>False) s₂) (fun _ _=>False) s₁') (fun _ _=>False) s₁) (fun _ _=>False) s)
   (n:Nat) (h:I n s) :
   codeAny (model prog w) A (.compLoop (.DictComp kx vx [⟨target,iter,ifs,0⟩] scope pos) 0 it (.ref D) env) R s:=by
 refine codeAny_loop rfl I (fun n s hI=> ?_) n h
 show wpAny _ A ((compTurn (.DictComp kx vx [⟨target,iter,ifs,0⟩] scope pos) 0 it (.ref D) env).onRaise (fun x=>do noteFrame x env;theTreesLotGoes x)) _ _ s
 refine wpAny_noted ?_
 rw[compTurn_dict]
 refine wpAny_bind (wpAny_standAt (wpAny_bind (wpAny_mono (turn n s hI) (fun r s₁ h₁=> ?_) fun _ _ h'=>h'.elim)))
 cases r with
 | none=>exact wpAny_pure h₁
 | some v =>
   refine wpAny_bind (wpAny_mono h₁ (fun _ s₁' h₁'=> ?_) fun _ _ h'=>h'.elim)
   refine wpAny_bind (wpAny_mono h₁' (fun _ s₂ h₂=>wpAny_bind (wpAny_mono h₂ (fun ok s₃ h₃=> ?_) fun _ _ h'=>h'.elim)) fun _ _ h'=>h'.elim)
   cases ok with
   | false=>exact wpAny_pure ⟨rfl,h₃⟩
   | true =>
     exact wpAny_bind (wpAny_bind (wpAny_mono h₃ (fun x s₄ h₄=>wpAny_bind (wpAny_holding (wpAny_mono h₄ (fun y s₅ h₅=>wpAny_bind (wpAny_standAt (wpAny_holding (wpAny_mono h₅ (fun _ s₆ h₆=>wpAny_pure ⟨rfl,h₆⟩) fun _ _ h'=>h'.elim)))) fun _ _ h'=>h'.elim))) fun _ _ h'=>h'.elim))
noncomputable def DcW (J:It) (n:Nat) (g:TG) (tt:TT) (tk tv:TE) (σ:St) (H1:Hp) (Fin:List (Key × V)→Hp→Prop):Prop :=
 ∃ W : Nat→Nat→List (Key × V)→Hp→Prop,(∃ m,W 0 m [] H1)∧∀ i m ys H,W i m ys H→ys.length < sizeLine ∧
   ((J.stop i H∧Fin ys H) ∨
    (J.go i H∧∃ N:List (Key × V)→Hp→Prop,(∀ ys' H',N ys' H'→∃ m',m' < m∧W (i+1) m' ys' H')∧∀ x H',J.yld i H x H'→g x (List.replicate n none++σ) H' fun σ2 H2=>σ2.drop n=σ∧tt σ2 H2 fun c H3 =>
       if c=true then tk σ2 H3 fun x H4=>tv σ2 H4 fun y H5=>∃ k,x=kV k∧N (putK ys k y) H5 else N ys H3))
noncomputable def tDC (n:Nat) (wi:TI) (g:TG) (tt:TT) (tk tv:TE):TE:=fun σ H Q=>wi σ H fun J H1=>DcW J n g tt tk tv σ H1 fun ys H'=>∀ D,H' D=none→Q (.ref D) (upd H' D (.dK ys))
section
variable {X:Cx} {pins:List (Addr × Obj)} {σ:St} {H:Hp} {s:Shared} {ts M:List Str} {scope:Scope} {fp:List Addr}
theorem qm9 {M:Model} {A:Around} {E:Value→Shared→Prop} {Q:Value→Shared→Prop} (h:Q (.ref s.heap.objs.size) { s with heap:=s.heap.push { cls:=.type "dict",data:=.dict #[] } }):wpAny M A newDict Q E s:=by
 unfold newDict
 exact wpAny_newObj_type h (by first | size_fits | decide | exact Nat.zero_le _)
theorem qfc {P:Program} {w:World} {h h':Heap} {D:Addr} {its:List (Key × Value)} {o:Obj} (d:h.DictOf (qm P w) D its) (e:h.get? D=some o) (e':h'.get? D=some o):h'.DictOf (qm P w) D its:=by
 obtain ⟨o',es,ep,e1,r⟩:=d
 rw[e]at e1;cases e1
 exact⟨o,es,ep,e',r⟩
theorem qz0 {D:Addr} (h:sysModules < D):(D==sysModules)=false:=by
 simp only [beq_eq_false_iff_ne];exact Nat.ne_of_gt h
theorem Inv.compedD {H':Hp} {s':Shared} {σ':St} {C D:Addr} {pins':List (Addr × Obj)} {o:HO} (I:Inv X pins σ H s) (hf:∀ b ∈ fp,qci X pins H b) (J:Inv (cxC X ts M scope C fp s H) pins' σ' H' s') (hD:s.heap.objs.size≤D) (hD0:H' D=none) (hn:qw X.prog X.w (upd H' D o) s'.heap D o):Inv X pins σ (upd H' D o) s':=by
 have u:=J.base
 have neD:∀ b o,s.heap.get? b=some o→b ≠ D:=fun b o e=>Nat.ne_of_lt (Nat.lt_of_lt_of_le (Heap.lt_size e) hD)
 have neH:∀ b o,H' b=some o→b ≠ D:=fun b o e z=>by rw[z,hD0]at e;cases e
 refine I.call' (ch:=fp) J.os ⟨u.keep,u.slot,fun b o e n hb=> ?_,u.there,fun b xs e=> ?_,fun b o w e=> ?_,fun b ps e=> ?_⟩ (fun b u e=> ?_) J.bare (fun b hb=>⟨(hf b hb).2.2.2.1,(hf b hb).2.1,(hf b hb).2.2.2.2.1,(hf b hb).2.2.2.2.2⟩)
 · rw[qc (neD b o e)];exact u.free b o e n hb
 · have q:=u.tups b xs e
   rw[qc (neH b _ q)];exact q
 · have q:=u.frzs b o w e
   rw[qc (neH b _ q)];exact q
 · obtain ⟨more,q⟩:=u.tbls b ps e
   exact⟨more,by rw[qc (neH b _ q)];exact q⟩
 · by_cases hb:b=D
   · subst hb
     rw[qg]at e;cases e
     exact hn
   · rw[qc hb]at e
     refine(J.hok b u e).stay (fun _ _ _ q=>q) (fun c q=> ?_) fun c xs q=> ?_
     · rw[qc (neH c _ q)];exact q
     · rw[qc (neH c _ q)];exact q
theorem qlr {tg iter kx vx:Expr} {ifs:List Expr} {pos:Pos} {g:TG} {tt:TT} {tk tv:TE} (c:qah X ts M scope) (hc:X.calm=true) (hg:∀ C fp s₀ H₀,PG (cxC X ts M scope C fp s₀ H₀) tg g) (hf:∀ C fp s₀ H₀,PF (cxC X ts M scope C fp s₀ H₀) ifs tt)
   (hk:∀ C fp s₀ H₀,PE (cxC X ts M scope C fp s₀ H₀) kx tk) (he:∀ C fp s₀ H₀,PE (cxC X ts M scope C fp s₀ H₀) vx tv) {it:Addr} {tn:Nat→Heap→Prop} {J:It} {Fin:List (Key × V)→Hp→Prop} (I:Inv X pins σ H s) (T:Turn X.prog X.w X.K tg J fp it tn) (t0:tn 0 s.heap) (f0:∀ b ∈ fp,qci X pins H b) (hw:DcW J ts.length g tt tk tv σ H Fin)
   {RR:Value→Addr→Result→Shared→Prop}
   (hRR:∀ (D C:Addr) (H':Hp) (s':Shared) (ys:List (Key × V)) (m:Str→Option Value),Inv X pins σ (upd H' D (.dK ys)) s'→s'.heap.Ns C m→C ≠ X.env.locals→(∀ x a,X.env.cells.lookup x=some a→a ≠ C)→X.s₀.heap.objs.size≤C→upd H' D (.dK ys) C=none→(∀ p ∈ X.pn++pins,p.1 ≠ C)→H' D=none→Fin ys H'→RR (.ref D) C (.ok .next) s') :
   wpAny (model X.prog X.w) X.A newDict (fun acc s₃=>wpAny (model X.prog X.w) X.A (newFunctionEnv scope X.env.globals (clo scope X.env) [] X.env.qual none .none (some X.env)) (fun cenv s₄ =>
     codeAny (model X.prog X.w) X.A (.compStart (.DictComp kx vx [⟨tg,iter,ifs,0⟩] scope pos) 0 (.ref it) acc { cenv with scope:=relabel scope X.env }) (RR acc cenv.locals) s₄) X.xe s₃) X.xe s:=by
 obtain ⟨W,⟨m0,w0⟩,turn⟩:=hw
 have fpo:∀ b ∈ fp,b < s.heap.objs.size:=fun b hb=>by obtain ⟨o,e,_⟩:=T.obj _ _ t0 b hb;exact Heap.lt_size e
 refine qm9 (qdu ?_)
 dsimp only
 generalize hH2:s.heap.push { cls:=.type "dict",data:=.dict #[] }=h2
 have hCs:h2.objs.size=s.heap.objs.size+1:=by rw[← hH2,Heap.size_push]
 obtain ⟨C,hCe⟩:∃ C:Nat,h2.objs.size=C:=⟨_,rfl⟩
 obtain ⟨D,hDe⟩:∃ D:Nat,s.heap.objs.size=D:=⟨_,rfl⟩
 have hns₁:=(Heap.Ns.new h2 (.type "dict")).keeps (pushCells_keeps scope.names (h2.push { cls:=.type "dict",data:=.dict #[] }))
 have ok:=cellsFrom_ok scope.names (h2.push { cls:=.type "dict",data:=.dict #[] }) (h2.objs.size+1) [] ⟨fun _ _ hm=>(nomatch hm),List.Pairwise.nil⟩ (by rw[Heap.size_push];exact Nat.le_refl _)
 rw[Heap.size_push]at ok
 rw[hCe]at hns₁ ok ⊢
 rw[hDe]
 rw[hCe,hDe]at hCs
 have hDC:D ≠ C:=by omega
 generalize hh1:pushCells (h2.push { cls:=.type "dict",data:=.dict #[] }) scope.names=h₁ at hns₁ ok ⊢
 have kp:∀ b o,h2.get? b=some o→h₁.get? b=some o:=fun b o e=>by rw[← hh1];exact pushCells_keeps _ _ b o (Heap.get?_push_of_some _ e)
 have old:∀ b u,s.heap.get? b=some u→h₁.get? b=some u:=fun b u e=>kp b u (hH2 ▸ Heap.get?_push_of_some _ e)
 have hacc:h₁.DictOf (qm X.prog X.w) D []:=by
   obtain ⟨o,es,ep,ho,r⟩:=Heap.DictOf.new (knd:=qm X.prog X.w) s.heap
   refine⟨o,es,ep,kp _ _ ?_,r⟩
   rw[← hH2,← hDe]
   exact ho
 have hns:h₁.Ns C fun _=>none:=hns₁
 have hO:qtw scope C h₁:=⟨fun x a h=>⟨(ok.empty x a h).1,(ok.empty x a h).2⟩,ok.apart⟩
 have J0:Inv (cxC X ts M scope C fp s H) [] (List.replicate ts.length none++σ) H { s with heap:=h₁,toks:=s.toks }:=I.comp c f0 fpo (by omega) hns hO old
 have hDn:H D=none:=I.hok.fresh (by omega)
 have hDs:sysModules < D:=by have q:=I.big;rw[hDe]at q;exact q
 have loop : codeAny (model X.prog X.w) X.A (.compLoop (.DictComp kx vx [⟨tg,iter,ifs,0⟩] scope pos) 0 (.ref it) (.ref D) (compEnvC scope (cellsFrom (C+1) scope.names (clo scope X.env)) C X.env)) (RR (.ref D) C) { s with heap:=h₁,toks:=s.toks }:=by
   refine qjy (fun n s'=>∃ (i:Nat) (σ':St) (H':Hp) (ys:List (Key × V)) (its:List (Key × Value)),Inv (cxC X ts M scope C fp s H) [] σ' H' s'∧σ'.drop ts.length=σ∧tn i s'.heap∧(∀ b ∈ fp,H' b=none)∧H' D=none∧s'.heap.DictOf (qm X.prog X.w) D its∧KV ys its∧W i n ys H') ?_ m0
     ⟨0,_,H,[],[],J0,by rw[List.drop_append,List.drop_of_length_le (by simp)];simp,T.keep _ _ _ t0 fun b _ o e=>old b o e,fun b hb=>(f0 b hb).1,hDn,hacc,.nil,w0⟩
   rintro n s1 ⟨i,σ1,H1,ys,its,I1,d1,t1,fr1,hD1,dd1,rv1,w1⟩
   obtain ⟨oD,esD,epD,hl1,xD,hdD,rD⟩:=id dd1
   obtain ⟨hz,hturn⟩:=turn i n ys H1 w1
   have nDfp:D ∉ fp:=fun z=>by have: @LT.lt Nat _ D s.heap.objs.size:=fpo D z;omega
   have neC:∀ x a,(cellsFrom (C+1) scope.names (clo scope X.env)).lookup x=some a→a ≠ D:=fun x a h z=>by
     have z: @Eq Nat a D:=z
     rcases qad h with h | ⟨_,h⟩
     · have:=(hO.empty _ _ h).2
       omega
     · obtain ⟨v,q⟩:=I.cell x a (qck (c.has I.ok) h)
       have: @LT.lt Nat _ a s.heap.objs.size:=q.lt
       omega
   have pinD:∀ {H':Hp} {s':Shared} {obj:Obj},s'.heap.get? D=some obj→H' D=none→(∀ v,obj.data ≠ .cell v)→∀ p ∈ [(D,obj)],s'.heap.get? p.1=some p.2∧H' p.1=none∧p.1 ≠ (cxC X ts M scope C fp s H).env.locals∧p.1 ∉ (cxC X ts M scope C fp s H).fs∧∀ v,p.2.data ≠ .cell v:=by
     intro H' s' obj e1 e2 e3 p hp
     have hp:p=(D,obj):=by simpa using hp
     subst hp
     refine⟨e1,e2,hDC,fun z=> ?_,e3⟩
     have z:D ∈ frs X.stack:=z
     rcases List.mem_cons.mp (I.stkSub D z)with e | e
     · have: @LT.lt Nat _ X.env.locals s.heap.objs.size:=I.lt
       have e: @Eq Nat D X.env.locals:=e
       omega
     · exact I.nofs (a:=D) (by omega) e
   have I1':=I1.pins_of (pinD hl1 hD1 fun v z=>by rw[hdD]at z;cases z)
   have fpk:∀ {H':Hp},(∀ b ∈ fp,H' b=none)→∀ b ∈ fp,qci (cxC X ts M scope C fp s H) [(D,oD)] H' b:=fun {H'} fr b hb=>by
     refine⟨fr b hb,fun z=> ?_,I1.ok.exfs b hb,.inl hb,fun x a h=> ?_,fun p hp=> ?_⟩
     · have: @LT.lt Nat _ b s.heap.objs.size:=fpo b hb
       have z: @Eq Nat b C:=z
       omega
     · rcases qad h with h | ⟨_,h⟩
       · have h1:=(hO.empty _ _ h).2
         have h2: @LT.lt Nat _ b s.heap.objs.size:=fpo b hb
         exact Nat.ne_of_gt (by omega)
       · exact(f0 b hb).2.2.2.2.1 x a (qck (c.has I.ok) h)
     · have hp:p=(D,oD):=by simpa [cxC]using hp
       subst hp
       rintro rfl
       exact nDfp hb
   rcases hturn with ⟨stop,fin⟩ | ⟨go,N,hN,step⟩
   · refine wpAny_mono (T.done (cxC X ts M scope C fp s H) rfl rfl rfl hc i _ s1 σ1 H1 (fun _ _=>False) I1' (fpk fr1) t1 stop) (fun r s2 ⟨hr,I2⟩=> ?_) fun _ _ z=>z
     subst hr
     have pD:=I2.pin (D,oD) (by simp)
     obtain ⟨m2,hn2,_⟩:=I2.loc
     refine hRR D C H1 s2 ys m2 (I.compedD f0 I2 (by omega) hD1 ⟨by omega,qz0 hDs,its,rv1,qfc dd1 hl1 pD.1⟩) hn2 ?_ (fun x a h=> ?_) ?_ ?_ (fun p hp=> ?_) hD1 fin
     · have: @LT.lt Nat _ X.env.locals s.heap.objs.size:=I.lt
       exact Nat.ne_of_gt (by omega)
     · obtain ⟨v,q⟩:=I.cell x a h
       have: @LT.lt Nat _ a s.heap.objs.size:=q.lt
       exact Nat.ne_of_lt (by omega)
     · have:=I.sz;omega
     · rw[qc (Ne.symm hDC)];exact I2.free
     · have: @LT.lt Nat _ p.1 s.heap.objs.size:=Heap.lt_size (I.pin p hp).1
       exact Nat.ne_of_lt (by omega)
   · refine wpAny_mono (T.item (cxC X ts M scope C fp s H) rfl rfl rfl hc i _ s1 σ1 H1 (fun _ _=>False) I1' (fpk fr1) t1 go) (fun r s2 ⟨u,hr,h2⟩=> ?_) fun _ _ z=>z
     subst hr
     refine wpAny_mono h2 (fun _ s3 ⟨x,H3,I3,r3,y3,t3,fr3⟩=> ?_) fun _ _ z=>z
     have I3':Inv (cxC X ts M scope C fp s H) _ (List.replicate ts.length none++σ) H3 s3:=(I3.pinned (fpk fr3) (T.obj _ _ t3)).weak (by
         have:=I3.len
         have e:σ1.length=(ts++M).length:=I3.len
         rw[List.length_append,List.length_replicate,I.len,e,List.length_append,c.len]) (fun j v e=>by
         have hj:ts.length≤j:=by
           rcases Nat.lt_or_ge j ts.length with z | z
           · rw[List.getElem?_append_left (by simpa using z),List.getElem?_replicate]at e
             split at e <;> cases e
           · exact z
         rw[List.getElem?_append_right (by simpa using hj)]at e
         rw[← d1,List.getElem?_drop]at e
         simp only [List.length_replicate]at e
         rwa [show ts.length+(j - ts.length)=j by omega]at e)
     refine wpAny_mono (hg C fp s H _ s3 _ H3 x u _ I3' r3 (step x H3 y3)) (fun _ s4 ⟨σ4,H4,I4,d4,q4⟩=> ?_) fun _ _ z=>z
     refine wpAny_mono (hf C fp s H _ s4 σ4 H4 _ I4 q4) (fun ok s5 ⟨H5,I5,q5⟩=> ?_) fun _ _ z=>z
     have keepT:∀ {σ7:St} {H7:Hp} {s7:Shared},Inv (cxC X ts M scope C fp s H) ([(D,oD)]++qcj fp s3.heap) σ7 H7 s7→tn (i+1) s7.heap∧(∀ b ∈ fp,H7 b=none):=fun {σ7 H7 s7} I7 =>
       ⟨T.keep _ _ _ t3 fun b hb o e=>(I7.pin (b,o) (List.mem_append_right _ (List.mem_append_right _ (qag hb e)))).1,fun b hb=>by
         obtain ⟨o,e,_⟩:=T.obj _ _ t3 b hb
         exact(I7.pin (b,o) (List.mem_append_right _ (List.mem_append_right _ (qag hb e)))).2.1⟩
     cases ok with
     | false =>
       rw[if_neg Bool.false_ne_true]at q5 ⊢
       obtain ⟨m',hm,w'⟩:=hN _ _ q5
       have pD:=I5.pin (D,oD) (by simp)
       exact⟨m',hm,i+1,σ4,H5,ys,its,I5.pins_of (fun p hp=>by simp at hp),d4,(keepT I5).1,(keepT I5).2,pD.2.1,qfc dd1 hl1 pD.1,rv1,w'⟩
     | true =>
       rw[if_pos rfl]at q5 ⊢
       refine wpAny_mono (hk C fp s H _ s5 σ4 H5 _ I5 q5) (fun v s6 ⟨y,H6,I6,r6,q6⟩=> ?_) fun _ _ z=>z
       refine wpAny_mono (he C fp s H _ s6 σ4 H6 _ I6 q6) (fun v2 s7 ⟨y2,H7,I7,r7,kk,ek,q7⟩=> ?_) fun _ _ z=>z
       subst ek
       obtain ⟨m',hm,w'⟩:=hN _ _ q7
       have pD:=I7.pin (D,oD) (by simp)
       have hlen:=rv1.length
       refine wpAny_dictSet_pairs (hsz:=by omega) (qft r6) (qfc dd1 hl1 pD.1) fun h' dd' sb=> ?_
       have up:∀ b o,b ≠ D→s7.heap.get? b=some o→h'.get? b=some o:=fun b o hb e=>(sb.2 b hb).trans e
       have I8:Inv (cxC X ts M scope C fp s H) [] σ4 H7 { s7 with heap:=h',toks:=s7.toks+1 } :=
         (I7.pins_of (pins':=[]) (fun p hp=>by simp at hp)).turned up pD.2.1 hDC (.inr (by show s.heap.objs.size≤D;omega)) (fun x a h=>neC x a h) (fun p hp=>by simp [cxC]at hp)
       refine⟨m',hm,i+1,σ4,H7,putK ys kk y2,_,I8,d4,?_,(keepT I7).2,pD.2.1,dd',rv1.put kk r7,w'⟩
       exact T.keep _ _ _ (keepT I7).1 fun b hb o e=>up b o (fun z=>nDfp (z ▸ hb)) e
 exact codeAny_compStart_dict loop (T.self _ 0 _ _ _ (T.keep _ _ _ t0 fun b _ o e=>old b o e) loop)
theorem q3c {tg iter kx vx:Expr} {ifs:List Expr} {pos:Pos} {wi:TI} {g:TG} {tt:TT} {tk tv:TE} (c:qah X ts M scope) (hc:X.calm=true) (hi:PI X tg iter wi) (hg:∀ C fp s₀ H₀,PG (cxC X ts M scope C fp s₀ H₀) tg g) (hf:∀ C fp s₀ H₀,PF (cxC X ts M scope C fp s₀ H₀) ifs tt)
   (hk:∀ C fp s₀ H₀,PE (cxC X ts M scope C fp s₀ H₀) kx tk) (he:∀ C fp s₀ H₀,PE (cxC X ts M scope C fp s₀ H₀) vx tv) (hs:∀ x,foldedSetIterable iter X.env x=pure x:=by intro _;rfl):PE X (.DictComp kx vx [⟨tg,iter,ifs,0⟩] scope pos) (tDC ts.length wi g tt tk tv):=by
 intro pins s σ H Q I h
 rw[arm_eval_DictComp]
 refine wpAny_comprehension_free (use:=none) rfl hs (qgs (c.has I.ok)) c.kind c.loc (thn (hi pins s σ H _ I h) fun v s1 h1=>thn h1 fun itv s2 h2=> ?_)
 obtain ⟨it,fp,tn,J,H2,rfl,I2,T,t0,f0,hw⟩:=h2
 refine qlr (RR:=fun acc C=>compPost (model X.prog X.w) X.A X.xe none (EP X pins σ Q) acc C) c hc hg hf hk he I2 T t0 f0 hw ?_
 intro D C H' s' ys m I' hn n1 n2 n3 n4 n5 hD fin
 exact⟨m,hn,fun h' hs'=>⟨.ref D,_,I'.turned (t':=s'.toks) (fun b o hb e=>(hs'.2 b hb).trans e) n4 n1 (.inr n3) n2 n5,rfl,fin D hD⟩⟩
theorem qr2 {i:Nat} {x:Str} {tg iter kx vx:Expr} {ifs:List Expr} {pos pos' spos:Pos} {wi:TI} {g:TG} {tt:TT} {tk tv:TE} (hN:X.N.Nodup) (hix:X.N[i]? =some x) (hx:Loc X.env.scope x) (c:qah X ts M scope) (hc:X.calm=true) (hi:PI X tg iter wi) (hg:∀ C fp s₀ H₀,PG (cxC X ts M scope C fp s₀ H₀) tg g) (hf:∀ C fp s₀ H₀,PF (cxC X ts M scope C fp s₀ H₀) ifs tt)
   (hk:∀ C fp s₀ H₀,PE (cxC X ts M scope C fp s₀ H₀) kx tk) (he:∀ C fp s₀ H₀,PE (cxC X ts M scope C fp s₀ H₀) vx tv) (hs:∀ x,foldedSetIterable iter X.env x=pure x:=by intro _;rfl) (hsw:swapsWith (.DictComp kx vx [⟨tg,iter,ifs,0⟩] scope pos) (some (.Name x pos')) spos.line X.env=pure true:=by rfl)
   (hfn:X.fn x=true∨X.env.scope.names.lookup x=some .local:=by first | exact .inl rfl | exact .inr rfl | assumption) :
   PS X (.Assign [.Name x pos'] (.DictComp kx vx [⟨tg,iter,ifs,0⟩] scope pos) spos) (qoy (tDC ts.length wi g tt tk tv) (qij i)):=by
 intro pins s σ H Dn I h
 rw[exec_Assign_Name_used _ _ _ _ hsw]
 refine wpAny_bind (wpAny_standAt (wpAny_bind ?_))
 show wpAny _ X.A (do let _ ← comprehension (.DictComp kx vx [⟨tg,iter,ifs,0⟩] scope pos) scope X.env _ newDict false (eval iter X.env) (some (assign (.Name x pos') X.env))) _ _ s
 refine wpAny_bind (wpAny_mono (wpAny_comprehension_free (use:=some (assign (.Name x pos') X.env)) (Q:=fun _ s'=>SP X pins Dn .next s') rfl hs (qgs (c.has I.ok)) c.kind c.loc
   (thn (hi pins s σ H _ I h) fun v s1 h1=>thn h1 fun itv s2 h2=> ?_)) (fun _ s' hq=>wpAny_pure (wpAny_pure hq)) fun _ _ e=>e)
 obtain ⟨it,fp,tn,J,H2,rfl,I2,T,t0,f0,hw⟩:=h2
 refine qlr (RR:=fun acc C=>compPost (model X.prog X.w) X.A X.xe (some (assign (.Name x pos') X.env)) (fun _ s'=>SP X pins Dn .next s') acc C) c hc hg hf hk he I2 T t0 f0 hw ?_
 intro D C H' s' ys m I' hn n1 n2 n3 n4 n5 hD fin
 show wpAny _ X.A (assign (.Name x pos') X.env (.ref D)) _ _ _
 refine wpAny_assign_Name (qew I' hN hix hx (v:=.ref D) rfl (fun s'' I'' hsb=> ?_) hfn)
 obtain ⟨a,hsb,ha⟩:=hsb
 have hCa:C ≠ a:=by
   rcases ha with rfl | ha
   · exact n1
   · exact(n2 x a ha).symm
 refine⟨m,hn.sameBut hsb hCa,fun h' hs'=>⟨_,_,I''.turned (t':=s''.toks) (fun b o hb e=>(hs'.2 b hb).trans e) n4 n1 (.inr n3) n2 n5,fin D hD⟩⟩
end
section
variable {X:Cx}
theorem qoi:∀ {xs:List V} {us:List Value},xs.length=us.length→(∀ (i:Nat) x u,xs[i]? =some x→us[i]? =some u→RelV x u)→Vals xs us
 | [],[],_,_=>.nil
 | [],_::_,h,_=>by simp at h
 | _::_,[],h,_=>by simp at h
 | x::xs,u::us,h,k=>.cons (k 0 x u rfl rfl) (qoi (by simpa using h) fun i y w e f=>k (i+1) y w (by simpa using e) (by simpa using f))
theorem qi7 {P:Program} {w:World} {kvs:List (Key × V)} {vs:List (Key × Value)} {acc:List Value} (rel:KV kvs vs) (hl:acc.length=vs.length) (hv:∀ (j:Nat) v,acc[j]? =some v→∃ k x,vs[j]? =some (k,x)∧(qm P w).is k v=true):Vals (kvs.map fun kv=>kV kv.1) acc:=by
 refine qoi (by rw[List.length_map,rel.length,hl]) fun i x u e1 e2=> ?_
 obtain ⟨k,y,e3,hk⟩:=hv i u e2
 rw[List.getElem?_map]at e1
 cases e4:kvs[i]? with
 | none=>rw[e4]at e1;cases e1
 | some p =>
   obtain ⟨k',v'⟩:=p
   rw[e4]at e1
   obtain ⟨u',e5,_⟩:=rel.get e4
   rw[e3]at e5;cases e5
   have:kV k=x:=by simpa using e1
   rw[← this]
   exact qoh hk
theorem qna (hc:X.calm=true):qx X (.type "list") (fun xs H Q=>∃ a kvs,xs=[.ref a]∧Rd H a (.dK kvs)∧∀ l,H l=none→Q (.ref l) (upd H l (.lst (kvs.map fun kv=>kV kv.1)))):=by
 intro pins s σ H xs us Q I r h
 obtain ⟨a,kvs,rfl,hd,q⟩:=h
 obtain ⟨u,rfl,ru⟩:=vals1 r
 cases ru
 obtain ⟨z,hs,vs,rel,dd⟩:=qen I.hok hd
 obtain ⟨ep,da⟩:=dd.dictAt
 refine PySem.W.kdl_call (PySem.W.kdl_dict (knd:=qm X.prog X.w) (kvs:=vs) (ep:=ep) hs) (I.ok.hd hc) da (by rw[← rel.length];exact z) fun h' tk acc c kp e it=> ?_
 have hv:Vals (kvs.map fun kv=>kV kv.1) acc.toList:=qi7 (P:=X.prog) (w:=X.w) rel (by rw[Array.length_toList];exact it.1) fun j v e=>it.2 j v (by rw[← Array.getElem?_toList];exact e)
 exact⟨.ref s.heap.objs.size,_,I.laid (o:=.lst (kvs.map fun kv=>kV kv.1)) (t':=tk) kp (Nat.le_refl _) ⟨by rw[List.length_map];exact z,acc.toList,c,hv,by simpa using e⟩,rfl,q _ (I.hok.fresh (Nat.le_refl _))⟩
theorem qgi:∀ {ns:List Int} {its:List Value},Vals (ns.map V.int) its→IntsAre its ns
 | [],_,.nil=>.nil
 | n::ns,_,.cons r t=>by
   obtain ⟨k,rfl⟩:=r
   exact .cons n k (qgi t)
theorem qjz:∀ {ns:List Int} {its:List Value},IntsAre its ns→Vals (ns.map V.int) its
 | _,_,.nil=>.nil
 | _,_,.cons n k t=>.cons ⟨k,rfl⟩ (qjz t)
theorem qj0:qx X (.builtin "sorted") (fun xs H Q=>∃ a,∃ ns:List Int,xs=[.ref a]∧SqL X.K H a (ns.map V.int)∧ns.length < 64∧∀ (l:Addr) (ns':List Int),H l=none→ns'.Perm ns→ns'.Pairwise (·≤·)→Q (.ref l) (upd H l (.lst (ns'.map V.int)))):=by
 intro pins s σ H xs us Q I r h
 obtain ⟨a,ns,rfl,hl,h64,q⟩:=h
 obtain ⟨u,rfl,ru⟩:=vals1 r
 cases ru
 obtain ⟨its,rv,pl,_⟩:=I.list hl
 have hlen:=rv.length
 rw[List.length_map]at hlen
 refine sorted_ints pl.isList (qgi rv) (by omega) fun out ns' a1 a2 a3=> ?_
 obtain ⟨e,he⟩:=sortedAll_at s.heap its out
 refine⟨.ref (s.heap.objs.size+1),_,I.laid (o:=.lst (ns'.map V.int)) (t':=s.toks) (fun _ _=>sortedAll_old) (Nat.le_succ _) ⟨?_,out.toList,e,qjz a1,by simpa [seqObj]using he⟩,rfl,q _ ns' (I.hok.fresh (Nat.le_succ _)) a2 a3⟩
 rw[List.length_map,a2.length_eq]
 exact Nat.le_of_lt (qbw (by omega))
theorem qj1 (hc:X.calm=true):qx X (.builtin "sorted") (fun xs H Q=>∃ a kvs,∃ ns:List Int,xs=[.ref a]∧Rd H a (.dK kvs)∧kvs.map (fun kv=>kV kv.1)=ns.map V.int∧ns.length < 64∧∀ (l:Addr) (ns':List Int),H l=none→ns'.Perm ns→ns'.Pairwise (·≤·)→Q (.ref l) (upd H l (.lst (ns'.map V.int)))):=by
 intro pins s σ H xs us Q I r h
 obtain ⟨a,kvs,ns,rfl,hd,hk,h64,q⟩:=h
 obtain ⟨u,rfl,ru⟩:=vals1 r
 cases ru
 obtain ⟨z,hs,vs,rel,dd⟩:=qen I.hok hd
 obtain ⟨ep,da⟩:=dd.dictAt
 have hnl:ns.length=kvs.length:=by have:=congrArg List.length hk;simpa using this.symm
 refine Calls.call_function_entry kind_sorted plain_sorted entry_sorted (args_sorted1 _) ?_
 unfold Builtin.«sorted»
 refine wpAny_bind (m:=checkCount "sorted" 1 1 _) (wpAny_pure ?_)
 refine wpAny_bind (PySem.W.kdu_collect (A:=X.A.in1) (PySem.W.kdl_dict (knd:=qm X.prog X.w) (kvs:=vs) (ep:=ep) hs) (I.ok.hd hc) da (by rw[← rel.length];exact z) fun h' tk acc kp it=> ?_)
 have hv:Vals (kvs.map fun kv=>kV kv.1) acc.toList:=qi7 (P:=X.prog) (w:=X.w) rel (by rw[Array.length_toList];exact it.1) fun j v e=>it.2 j v (by rw[← Array.getElem?_toList];exact e)
 rw[hk]at hv
 have hal:acc.toList.length=ns.length:=by rw[← hv.length,List.length_map]
 have hal2:acc.size=ns.length:=by rw[← Array.length_toList];exact hal
 refine wpAny_bind (wpAny_newList ?_ (by rw[hal];exact Nat.le_of_lt (qbw (by omega))))
 have hoL:(h'.push (seqObj "list" acc.toList.toArray 0)).get? h'.objs.size=some (seqObj "list" acc.toList.toArray 0):=Heap.get?_push_size _ rfl
 refine wpAny_bind (wpAny_holding (wpAny_call_entry slot_list_sort ⟨_,hoL,rfl⟩ entry_list_sort (list_sort_tree hoL (qgi hv) (by omega) fun out ns' a1 a2 a3=>⟨_,rfl,?_⟩) (args_list_sort _)))
 refine wpAny_pure ⟨_,rfl,?_⟩
 obtain ⟨e,he⟩:=sortedHeap_at (out:=out) hoL
 have I':Inv X pins σ H { s with heap:=h',toks:=tk }:=I.kept (t':=tk) kp
 have old:∀ b o,h'.get? b=some o→(sortedHeap (h'.push (seqObj "list" acc.toList.toArray 0)) h'.objs.size acc.toList out).get? b=some o:=fun b o e=>by
   have hlt:b < h'.objs.size:=Heap.lt_size e
   rw[sortedHeap_old (Nat.ne_of_lt hlt) (by rw[size_push'];exact Nat.lt_succ_of_lt hlt)]
   exact Heap.get?_push_of_some _ e
 refine⟨.ref h'.objs.size,_,I'.laid (o:=.lst (ns'.map V.int)) old (Nat.le_refl _) ⟨?_,out.toList,e,qjz a1,by simpa [seqObj]using he⟩,rfl,q _ ns' (I'.hok.fresh (Nat.le_refl _)) a2 a3⟩
 rw[List.length_map,a2.length_eq]
 exact Nat.le_of_lt (qbw (by omega))
end
end L2
namespace T3
open PySem PySem.Spec PyProof.Rows L2
noncomputable def qh8:Key→D
 | .inl i=>.int i
 | .inr x=>.str x
theorem qls {w:Wd} {H:Hp}:∀ k:Key,Rep w H (qh8 k) (kV k)
 | .inl _=>rfl
 | .inr _=>rfl
theorem qfd {w:Wd} {H:Hp} {vs:List V}:∀ {ks:List Key},qb w H (ks.map qh8) (ks.map kV)
 | []=>rfl
 | k::ks=>⟨kV k,_,rfl,qls k,qfd (vs:=vs)⟩
theorem qhh:∀ {ks:List Key} {vs:List V},ks.length=vs.length→(ks.zip vs).map (fun kv=>kV kv.1)=ks.map kV
 | [],[],_=>rfl
 | [],_::_,h=>by simp at h
 | _::_,[],h=>by simp at h
 | k::ks,v::vs,h=>by rw[List.zip_cons_cons,List.map_cons,List.map_cons,qhh (by simpa using h)]
section
variable {X:Cx} {E E2:XW} {a b c e tg it kx vx:Expr} {f g fk fv:Env→M D} {pos:Pos} {fi:MI} {ifs:List Expr} {cond:Env→M Bool} {T:List Nat} {hd:D→Env→M Env} {ts Mk:List Str} {scope:Scope} {new:Bool}
noncomputable def qj2 (d:D):M (List D × Src):=match d with
 | .dct ks _=>M.pure (ks.map qh8,[])
 | _=>M.fail
theorem qz1 (he:PE X it (tD E f)):PI X tg it (tI E fun Γ=>M.bind (f Γ) qj2):=by
 refine PI.mono (quu he) fun σ H R ⟨w,Γ,S,rel,hold,q⟩=> ?_
 refine qe (k:=fun d _=>qj2 d) rel hold q fun d v S1 w1 H1 l1 rel1 h1 rv q1=> ?_
 unfold qj2 at q1
 split at q1
 case h_2=>exact False.elim q1
 case h_1 ks xs =>
   obtain ⟨p,vs,rfl,z,hr,hl,rr⟩:=rv
   refine⟨p,_,rfl,hr,fun o H2 e2 e4 e3=> ?_⟩
   have fz:∀ b,Fz (H1 b) (H2 b):=fun b=>by
     by_cases hb:b=p
     · subst hb
       rcases e4 with e4 | e4
       · exact .inl e4
       · exact .inr ⟨o,_,e4,e2⟩
     · exact .inl (e3 b hb)
   have le:Le w1 H1 w1 H2:=⟨List.prefix_refl _,fun _ z=>z,fun b _=>fz b⟩
   have ho:qf w1 H2 S1:=by
     refine⟨fun b zb=>(fz b).ne (h1.zin b zb),h1.len,h1.nd,fun b m=>(fz b).ne (h1.rin b m),fun l b c e q=> ?_⟩
     by_cases hb:b=p
     · subst hb
       have:=h1.cell l b c e q
       cases c with
       | gone=>trivial
       | lst xs=>exact absurd z this.1
       | dct ks xs=>exact absurd z this.1
       | obj C fs xs=>exact absurd z this.1
     · exact(h1.cell l b c e q).mono le (e3 b hb) id
   have hk:ks.length=vs.length:=hl.trans rr.length
   have lz:(ks.zip vs).length=(ks.map qh8).length:=by simp [hk]
   refine q1 _ _ le ho _ ⟨fun w' H' S' i l hh hs hi=> ?_,fun w' H' S' l hh hs=> ?_,fun w' H' S' i x H'' l hh hs hi y=> ?_⟩
   · refine⟨?_,by rw[lz];exact hi⟩
     rcases l.h p z with e | ⟨_,_,e,_⟩
     · rw[e];exact e2
     · rw[e2]at e;cases e
   · refine⟨?_,by rw[lz];exact Nat.le_refl _⟩
     rcases l.h p z with e | ⟨_,_,e,_⟩
     · rw[e];exact e2
     · rw[e2]at e;cases e
   · obtain ⟨rfl,k,v,e,rfl⟩:=y
     refine⟨w',qh8 k,?_,Le.refl _ _,hh,qls k⟩
     have:ks[i]? =some k:=by
       rw[List.getElem?_zip_eq_some]at e
       exact e.1
     rw[List.getElem?_map,this];rfl
noncomputable def qnb (new:Bool):List D→M D
 | [d]=>fun S=>match look d S with
   | .dct ks _=>alloc new (.lst (ks.map qh8)) S
   | _=>M.fail S
 | _=>M.fail
theorem qr3 (hc:X.calm=true):qbr X (.type "list") (qnb new):=by
 refine⟨_,qna hc,fun E w H S ds vs Q h rv q=> ?_⟩
 unfold qnb at q
 split at q
 case h_2=>exact False.elim q
 case h_1 d =>
   obtain ⟨v,rfl,r⟩:=rv.one_
   cases e1:look d S <;> rw[e1]at q <;> first | exact False.elim q | skip
   case dct ks xs =>
     obtain ⟨p,vs,rfl,hp,hl,hvs⟩:=qb1 h r e1
     refine⟨p,_,rfl,hp,fun l hl'=> ?_⟩
     rw[qhh (hl.trans hvs.length)]
     exact qae h (qfd (vs:=vs)) q hl'
noncomputable def insI (x:Int):List Int→List Int
 | []=>[x]
 | y::ys=>if x≤y then x::y::ys else y::insI x ys
noncomputable def sortI:List Int→List Int
 | []=>[]
 | x::xs=>insI x (sortI xs)
theorem insI_perm (x:Int):∀ ys,(insI x ys).Perm (x::ys)
 | []=>.refl _
 | y::ys=>by
   rw[insI]
   by_cases h:x≤y
   · rw[if_pos h]
   · rw[if_neg h];exact((insI_perm x ys).cons y).trans (.swap _ _ _)
theorem sortI_perm:∀ xs,(sortI xs).Perm xs
 | []=>.refl _
 | x::xs=>(insI_perm x _).trans ((sortI_perm xs).cons x)
theorem qfx (x:Int):∀ {ys:List Int},ys.Pairwise (·≤·)→(insI x ys).Pairwise (·≤·)
 | [],_=>by simp [insI]
 | y ::ys,h=>by
   rw[List.pairwise_cons]at h
   rw[insI]
   by_cases hx:x≤y
   · rw[if_pos hx,List.pairwise_cons,List.pairwise_cons]
     exact⟨fun z hz=>by rcases List.mem_cons.mp hz with rfl | hz;exact hx;exact Int.le_trans hx (h.1 z hz),h⟩
   · rw[if_neg hx,List.pairwise_cons]
     refine⟨fun z hz=> ?_,qfx x h.2⟩
     rcases List.mem_cons.mp ((insI_perm x ys).mem_iff.mp hz)with rfl | hz
     · omega
     · exact h.1 z hz
theorem qes:∀ xs,(sortI xs).Pairwise (·≤·)
 | []=>.nil
 | x::xs=>qfx x (qes xs)
theorem qfy:∀ {xs ys:List Int},xs.Perm ys→xs.Pairwise (·≤·)→ys.Pairwise (·≤·)→xs=ys
 | [],ys,p,_,_=>(List.Perm.nil_eq p)
 | x::xs,[],p,_,_=>by simpa using p.length_eq
 | x ::xs,y::ys,p,h1,h2=>by
   rw[List.pairwise_cons]at h1 h2
   have e:x=y:=by
     have a:x ∈ y::ys:=p.mem_iff.mp (by simp)
     have b:y ∈ x::xs:=p.mem_iff.mpr (by simp)
     rcases List.mem_cons.mp a with e | a
     · exact e
     · rcases List.mem_cons.mp b with e | b
       · exact e.symm
       · have:=h1.1 y b;have:=h2.1 x a;omega
   subst e
   rw[qfy ((List.perm_cons x).mp p) h1.2 h2.2]
theorem qi8 {xs ys:List Int} (p:xs.Perm ys) (h:xs.Pairwise (·≤·)):xs=sortI ys:=qfy (p.trans (sortI_perm ys).symm) h (qes ys)
noncomputable def qj3 (new:Bool):List D→M D
 | [d]=>fun S=>match look d S with
   | .lst xs=>match intsOf xs with
     | some ns=>if decide (ns.length < 64)then alloc new (.lst ((sortI ns).map D.int)) S else .no
     | none=>.no
   | .dct ks _=>match intsOf (ks.map qh8)with
     | some ns=>if decide (ns.length < 64)then alloc new (.lst ((sortI ns).map D.int)) S else .no
     | none=>.no
   | _=>.no
 | _=>M.fail
theorem ints_rep {w:Wd} {H:Hp}:∀ ns:List Int,qb w H (ns.map D.int) (ns.map V.int)
 | []=>rfl
 | n::ns=>⟨_,_,rfl,rfl,ints_rep ns⟩
theorem qr4 {F:Value} {r r':List V→Hp→VK→Prop} (h:qx X F r) (h':qx X F r'):qx X F (fun xs H Q=>r xs H Q∨r' xs H Q):=fun pins s σ H xs us Q I rv q=>q.elim (h pins s σ H xs us Q I rv) (h' pins s σ H xs us Q I rv)
theorem qpx (hc:X.calm=true):qbr X (.builtin "sorted") (qj3 new):=by
 refine⟨_,qr4 qj0 (qj1 hc),fun E w H S ds vs Q h rv q=> ?_⟩
 unfold qj3 at q
 split at q
 case h_2=>exact False.elim q
 case h_1 d =>
   obtain ⟨v,rfl,r⟩:=rv.one_
   cases e1:look d S <;> rw[e1]at q <;> first | exact False.elim q | skip
   case lst xs =>
     dsimp only at q
     cases e2:intsOf xs with
     | none=>rw[e2]at q;exact False.elim q
     | some ns =>
       rw[e2]at q
       dsimp only at q
       obtain ⟨p,us,rfl,hp,hvs⟩:=qk h r e1
       split at q
       case isFalse=>exact False.elim q
       case isTrue h64 =>
         refine .inl ⟨p,ns,rfl,SqL.of (by rw[hp,qa2 e2 hvs]),of_decide_eq_true h64,fun l ns' hl p1 p2=> ?_⟩
         rw[qi8 p1 p2]
         exact qae h (ints_rep _) q hl
   case dct ks xs =>
     dsimp only at q
     cases e2:intsOf (ks.map qh8)with
     | none=>rw[e2]at q;exact False.elim q
     | some ns =>
       rw[e2]at q
       dsimp only at q
       obtain ⟨p,us,rfl,hp,hl,hvs⟩:=qb1 h r e1
       split at q
       case isFalse=>exact False.elim q
       case isTrue h64 =>
         refine .inr ⟨p,_,ns,rfl,hp,?_,of_decide_eq_true h64,fun l ns' hl p1 p2=> ?_⟩
         · rw[qhh (hl.trans hvs.length)]
           exact qa2 (w:=w) (H:=H) e2 (qfd (vs:=us))
         · rw[qi8 p1 p2]
           exact qae h (ints_rep _) q hl
noncomputable def dcA (src:Src) (n:Nat) (hd:D→Env→M Env) (cond:Env→M Bool) (fk fv:Env→M D) (Γ:Env):List Key→List D→List D→M (List Key × List D)
 | ks,xs,[]=>M.bind (guard src) fun _=>M.pure (ks,xs)
 | ks,xs,d::ds=>M.bind (guard src) fun _=>M.bind (hd d (List.replicate n none++Γ)) fun Γ1=>M.bind (cond Γ1) fun b =>
   if b=true then M.bind (fk Γ1) fun k=>M.bind (fv Γ1) fun y=>match keyOf k with
     | some j=>dcA src n hd cond fk fv Γ (qbs ks j) (qbc ks xs j y) ds
     | none=>M.fail
   else dcA src n hd cond fk fv Γ ks xs ds
noncomputable def dcD (new:Bool) (n:Nat) (fi:MI) (hd:D→Env→M Env) (cond:Env→M Bool) (fk fv:Env→M D) (Γ:Env):M D :=
 M.bind (fi Γ) fun r=>if decide (r.1.length < sizeLine)then M.bind (noErr (dcA r.2 n hd cond fk fv Γ [] [] r.1)) fun p=>alloc new (.dct p.1 p.2)else M.fail
theorem qpy {ks:List Key} {k:Key}:(qbs ks k).length≤ks.length+1:=by
 unfold qbs
 split
 · omega
 · simp
theorem quv {α:Type} {ks:List Key} {xs:List α} {k:Key} {y:α} (h:ks.length=xs.length):(qbs ks k).length=(qbc ks xs k y).length:=by
 unfold qbs qbc
 cases qf8 ks k with
 | true=>rw[if_pos rfl,if_pos rfl,qe8 k y h]
 | false=>rw[if_neg Bool.false_ne_true,if_neg Bool.false_ne_true];simp [h]
theorem q3d {w:Wd} {H:Hp} {σ:St} {Γ:Env} {S:Sto} {src:Src} {items:List D} {J:It} {P:List Key × List D→Sto→Wd→Hp→Prop} {n:Nat} (hT:∀ i ∈ T,i < n) (hk:qab hd) (rel:Rel w H σ Γ) (hold:qf w H S) (wk:Walks J w H src items) (hz:items.length < sizeLine)
   (q:Wp E2 w H (dcA src n hd cond fk fv Γ [] [] items S) P) {Fin:List (Key × V)→Hp→Prop} (hf:∀ ks ds vs S' w' H',Le w H w' H'→qf w' H' S'→ks.length=ds.length→qb w' H' ds vs→P (ks,ds) S' w' H'→Fin (ks.zip vs) H'):DcW J n (tG E2 T hd) (tB E2 cond) (tD E2 fk) (tD E2 fv) σ H Fin:=by
 refine⟨fun i m ys H'=>m=items.length - i∧i≤items.length∧∃ w' S' ks ds vs,Le w H w' H'∧qf w' H' S'∧ks.length=ds.length∧qb w' H' ds vs∧ys=ks.zip vs∧ks.length≤i∧Wp E2 w' H' (dcA src n hd cond fk fv Γ ks ds (items.drop i) S') P,
   ⟨_,rfl,Nat.zero_le _,w,S,[],[],[],Le.refl _ _,hold,rfl,rfl,rfl,Nat.le_refl _,q⟩,?_⟩
 rintro i m ys H' ⟨rfl,hi,w2,S2,ks,ds,vs,l2,h2,hl2,r2,rfl,hlen,q2⟩
 refine⟨by rw[List.length_zip];have:=Nat.min_le_left ks.length vs.length;omega,?_⟩
 by_cases hlt:i < items.length
 · rw [List.drop_eq_getElem_cons hlt,dcA]at q2
   obtain ⟨so,q2⟩:=qan q2
   refine .inr ⟨wk.go w2 H' S2 i l2 h2 so hlt,fun ys H'=>∃ w' S' ks ds vs,Le w H w' H'∧qf w' H' S'∧ks.length=ds.length∧qb w' H' ds vs∧ys=ks.zip vs∧ks.length≤i+1∧Wp E2 w' H' (dcA src n hd cond fk fv Γ ks ds (items.drop (i+1)) S') P,fun ys' H' z=>⟨_,by omega,rfl,hlt,z⟩,fun x H'' y=> ?_⟩
   obtain ⟨w3,d,e3,l3,h3,r3⟩:=wk.yld w2 H' S2 i x H'' l2 h2 so hlt y
   have:d=items[i]:=by rw[List.getElem?_eq_getElem hlt]at e3;exact(Option.some.inj e3).symm
   subst this
   have q3:=Wp.bind (q2.later l3)
   refine⟨w3,items[i],_,S2,(rel.mono (l2.trans l3)).cons n,h3,r3,?_⟩
   cases e4:hd items[i] (List.replicate n none++Γ) S2 with
   | no=>rw[e4]at q3;exact q3
   | err x S4=>rw[e4]at q3;exact q3
   | ok Γ4 S4 =>
     rw[e4]at q3
     have hlen4:Γ4.length=n+Γ.length:=by rw[hk _ _ _ _ _ e4];simp
     intro w4 H4 l4 h4 σ4 rel4 b4
     have q4:=q3 w4 H4 l4 h4
     refine⟨rel4.undrop hT b4 (by rw[← rel4.len,hlen4,rel.len]),?_⟩
     refine qbu (k:=fun b Γ1=>if b=true then M.bind (fk Γ1) fun k=>M.bind (fv Γ1) fun y=>match keyOf k with
       | some j=>dcA src n hd cond fk fv Γ (qbs ks j) (qbc ks ds j y) (items.drop (i+1))
       | none=>M.fail
       else dcA src n hd cond fk fv Γ ks ds (items.drop (i+1))) rel4 h4 q4 fun bb S5 w5 H5 l5 rel5 h5 q5=> ?_
     have ll:=(l2.trans l3).trans (l4.trans l5)
     have rr:=r2.mono (l3.trans (l4.trans l5))
     cases bb with
     | true =>
       rw[if_pos rfl]
       refine qe (k:=fun k Γ1=>M.bind (fv Γ1) fun y=>match keyOf k with
         | some j=>dcA src n hd cond fk fv Γ (qbs ks j) (qbc ks ds j y) (items.drop (i+1))
         | none=>M.fail) rel5 h5 q5 fun dk kv S6 w6 H6 l6 rel6 h6 rk q6=> ?_
       refine qe (k:=fun y _=>match keyOf dk with
         | some j=>dcA src n hd cond fk fv Γ (qbs ks j) (qbc ks ds j y) (items.drop (i+1))
         | none=>M.fail) rel6 h6 q6 fun dy yv S7 w7 H7 l7 rel7 h7 ry q7=> ?_
       cases e8:keyOf dk with
       | none=>rw[e8]at q7;exact False.elim q7
       | some j =>
         rw[e8]at q7
         have rr':=(rr.mono l6).mono l7
         refine⟨j,qe9 rk e8,w7,S7,_,_,qbc ks vs j yv,ll.trans (l6.trans l7),h7,quv hl2,qi0 ry rr',qlk j yv (hl2.trans rr'.length),?_,q7⟩
         have:=qpy (ks:=ks) (k:=j)
         omega
     | false =>
       rw[if_neg Bool.false_ne_true]
       exact⟨w5,S5,ks,ds,vs,ll,h5,hl2,rr,rfl,by omega,q5⟩
 · have e:i=items.length:=by omega
   subst e
   rw[List.drop_length,dcA]at q2
   obtain ⟨so,q2⟩:=qan q2
   exact .inl ⟨wk.stop w2 H' S2 l2 h2 so,hf ks ds vs S2 w2 H' l2 h2 hl2 r2 (q2 _ _ (Le.refl _ _) h2)⟩
theorem qr5 {σ:St} {H:Hp} {Q:VK} {n:Nat} (hT:∀ i ∈ T,i < n) (hk:qab hd) (h:tD E (dcD new n fi hd cond fk fv) σ H Q):tDC n (tI E fi) (tG E2 T hd) (tB E2 cond) (tD E2 fk) (tD E2 fv) σ H Q:=by
 obtain ⟨w,Γ,S,rel,hold,q⟩:=h
 refine⟨w,Γ,S,rel,hold,(Wp.bind q).mono fun r S1 w1 H1 l1 h1 q1 J wk=> ?_⟩
 obtain ⟨hz,q1⟩:=Wp.iteF q1
 exact q3d hT hk (rel.mono l1) h1 wk (of_decide_eq_true hz) (Wp.noErr (Wp.bind q1)) fun ks ds vs S' w' H' l' h' hl rv q' D hD=>qiw h' hl rv q' hD
theorem q5a (cc:qah X ts Mk scope) (hc:X.calm=true) (hi:PI X tg it (tI E fi)) (hg:∀ C fp s₀ H₀,PG (cxC X ts Mk scope C fp s₀ H₀) tg (tG E2 T hd)) (hf:∀ C fp s₀ H₀,PF (cxC X ts Mk scope C fp s₀ H₀) ifs (tB E2 cond))
   (hk':∀ C fp s₀ H₀,PE (cxC X ts Mk scope C fp s₀ H₀) kx (tD E2 fk)) (he:∀ C fp s₀ H₀,PE (cxC X ts Mk scope C fp s₀ H₀) vx (tD E2 fv)) (hs:∀ x,foldedSetIterable it X.env x=pure x) (hT:∀ i ∈ T,i < ts.length) (hk:qab hd):PE X (.DictComp kx vx [⟨tg,it,ifs,0⟩] scope pos) (tD E (dcD new ts.length fi hd cond fk fv)) :=
 PE.mono (q3c cc hc hi hg hf hk' he hs) fun σ H Q h=>qr5 hT hk h
theorem quw {i:Nat} {x:Str} {pos' spos:Pos} (hN:X.N.Nodup) (hix:X.N[i]? =some x) (hx:Loc X.env.scope x) (cc:qah X ts Mk scope) (hc:X.calm=true) (hi:PI X tg it (tI E fi)) (hg:∀ C fp s₀ H₀,PG (cxC X ts Mk scope C fp s₀ H₀) tg (tG E2 T hd)) (hf:∀ C fp s₀ H₀,PF (cxC X ts Mk scope C fp s₀ H₀) ifs (tB E2 cond))
   (hk':∀ C fp s₀ H₀,PE (cxC X ts Mk scope C fp s₀ H₀) kx (tD E2 fk)) (he:∀ C fp s₀ H₀,PE (cxC X ts Mk scope C fp s₀ H₀) vx (tD E2 fv)) (hs:∀ x,foldedSetIterable it X.env x=pure x) (hsw:swapsWith (.DictComp kx vx [⟨tg,it,ifs,0⟩] scope pos) (some (.Name x pos')) spos.line X.env=pure true) (hfn:X.fn x=true∨X.env.scope.names.lookup x=some .local) (hT:∀ i ∈ T,i < ts.length) (hk:qab hd) :
   PS X (.Assign [.Name x pos'] (.DictComp kx vx [⟨tg,it,ifs,0⟩] scope pos) spos) (tS E fun Γ=>M.bind (dcD new ts.length fi hd cond fk fv Γ) fun d=>M.pure (.nx,Γ.set i (some d))):=by
 refine PS.mono (qr2 hN hix hx cc hc hi hg hf hk' he hs hsw hfn) fun D σ H ⟨w,Γ,S,rel,hold,q⟩=> ?_
 refine qr5 (new:=new) hT hk (qe (k:=fun d Γ=>M.pure (Fl.nx,Γ.set i (some d))) rel hold q fun dx x S1 w1 H1 l1 rel1 h1 rx q1=> ?_)
 exact(q1 _ _ (Le.refl _ _) h1:qbb D (.nx,_) S1 w1 H1) _ (rel1.set rx)
end
end T3
namespace L2
open PySem PySem.Spec PyProof.Rows
section
variable {X:Cx}
noncomputable def qux (ns:List Int):Nat:=(firstMet (fun i=>ns.getD i 0) ns.length).length
noncomputable def qz2 (ns:List Int) (k:Int):Bool:=(firstMet (fun i=>ns.getD i 0) ns.length).any (·==k)
theorem qpz (hc:X.calm=true):qx X (.type "set") (fun xs H Q=>∃ (a:Addr) (ns:List Int),xs=[.ref a]∧SqL X.K H a (ns.map V.int)∧ns.length+1 < scanBound∧∀ p,H p=none→Q (.ref p) (upd H p (.set (qz2 ns) (qux ns)))):=by
 intro pins s σ H xs us Q I r h
 obtain ⟨a,ns,rfl,hl,hb,q⟩:=h
 obtain ⟨u,rfl,ru⟩:=vals1 r
 cases ru
 obtain ⟨its,rv,pl,_⟩:=I.list hl
 have hlen:=rv.length
 rw[List.length_map]at hlen
 refine call_set_list (items:=its.toArray) (ns:=ns) (I.ok.hd hc) pl.isList (by simpa using qgi rv) (by simpa [← hlen]using hb) fun h' tk hS kp=> ?_
 have hS':h'.SetOf (intKind X.prog X.w) s.heap.objs.size (qz2 ns) (qux ns):=by
   have e:its.toArray.size=ns.length:=by simp [hlen]
   rw[e]at hS
   exact hS
 exact⟨.ref s.heap.objs.size,_,I.laid (o:=.set (qz2 ns) (qux ns)) (t':=tk) (fun b o e=>kp b o (Heap.lt_size e) e) (Nat.le_refl _) hS',rfl,q _ (I.hok.fresh (Nat.le_refl _))⟩
theorem qp0:qx X (.builtin "len") (fun xs H Q=>∃ (a:Addr) (m:Int→Bool) (n:Nat),xs=[.ref a]∧H a=some (.set m n)∧Q (.int n) H):=by
 intro pins s σ H xs us Q I r h
 obtain ⟨a,m,n,rfl,ha,q⟩:=h
 obtain ⟨u,rfl,ru⟩:=vals1 r
 cases ru
 obtain ⟨o,es,ep,t,h1,h2,h3,h4,h5,h6,h7,h8⟩:s.heap.SetOf (intKind X.prog X.w) a m n:=I.hok a _ ha
 refine call_len_set h1 h2 h3 h7 (by unfold scanBound at h6;omega) ?_
 rw[h8]
 exact⟨.int n,H,I.tok _,⟨_,rfl⟩,q⟩
end
end L2
namespace T3
open PySem PySem.Spec PyProof.Rows L2
noncomputable def qj4 (d:D):M D:=fun S=>match look d S with
 | .lst xs=>match intsOf xs with
   | some ns=>(if decide (ns.length+1 < scanBound)then M.pure (.int (qux ns))else M.fail) S
   | none=>.no
 | _=>.no
section
variable {X:Cx} {E:XW} {f:Env→M D} {e:Expr} {p1 p2 p3 p4:Pos}
theorem qr6 (hc:X.calm=true) (hg1:Gl X "len") (hm1:X.mg "len"=none) (hg2:Gl X "set") (hm2:X.mg "set"=none) (he:PE X e (tD E f)) (hs:starEach [e] X.env=[(false,eval e X.env)]) :
   PE X (.Call (.Name "len" p1) [.Call (.Name "set" p2) [e] [] p3] [] p4) (tD E fun Γ=>M.bind (f Γ) qj4):=by
 refine PE.mono (qei qp0 hg1 hm1 qmx (qq (qey (qpz hc) hg2 hm2 qx2 (qq he qbo hs) (by decide) (by decide) hs rfl) qbo)) fun σ H Q ⟨w,Γ,S,rel,hold,q⟩=> ?_
 refine qe (k:=fun x _=>qj4 x) rel hold q fun dx x S1 w1 H1 l1 rel1 h1 rx q1=> ?_
 unfold qj4 at q1
 cases e1:look dx S1 <;> rw[e1]at q1 <;> first | exact False.elim q1 | skip
 rename_i xs
 dsimp only at q1
 cases e2:intsOf xs with
 | none=>rw[e2]at q1;exact False.elim q1
 | some ns =>
   rw[e2]at q1
   obtain ⟨hz,q1⟩:=Wp.iteF q1
   obtain ⟨p,us,rfl,hp,hus⟩:=qk h1 rx e1
   refine⟨p,ns,rfl,by rw[← qa2 e2 hus];exact SqL.of hp,of_decide_eq_true hz,fun a ha=> ?_⟩
   refine⟨a,_,_,rfl,qg,?_⟩
   exact q1 _ _ (qbd h1 ha) (qby h1 ha) _ rfl
end
end T3
namespace L2
open PySem PySem.Spec PyProof.Rows
noncomputable def tabAt (tab:List (Str × Addr)) (z:Str):Option Addr:=(tab.find? fun p=>decide (p.1=z)).map (·.2)
structure qr7 (P:Program) (w:World) (K:PySem.W.Frag) (a:Addr) (tab:List (Str × Addr)):Prop where
 sys:(a==sysModules)=false
 at_:∀ h:Heap,K.In h→h.DictOf (qm P w) a (tab.map fun p=>(Sum.inr p.1,Value.ref p.2))
noncomputable def quy (K:PySem.W.Frag) (a:Addr) (ks:List Str):Prop:=∃ (o:Obj) (its:Array Value) (n:Nat),K.lookup a=some o∧o.cls=.type "tuple"∧o.data=.seq its n∧its.size≤sizeLine∧Vals (ks.map V.str) its.toList
theorem qoj {tab:List (Str × Addr)} {z:Str}:valueAt (tab.map fun p=>((Sum.inr p.1:Key),Value.ref p.2)) (Sum.inr z)=(tabAt tab z).map Value.ref:=by
 unfold valueAt tabAt
 rw[List.find?_map,Option.map_map,Option.map_map]
 have:((fun kv:Key × Value=>decide (kv.1=Sum.inr z)) ∘ fun p:Str × Addr=>((Sum.inr p.1:Key),Value.ref p.2))=fun p:Str × Addr=>decide (p.1=z):=by
   funext p
   show decide ((Sum.inr p.1:Key)=Sum.inr z)=decide (p.1=z)
   exact qqi _ _
 rw[this]
 rfl
section
variable {X:Cx} {x:Str} {a:Addr} {tab:List (Str × Addr)} {i:Expr} {ty:TE} {p pos:Pos}
theorem quz (hg:Gl X x) (hm:X.mg x=some (.ref a)) (T:qr7 X.prog X.w X.K a tab) (hi:PE X i ty) (hs:qyc i) (hdb:(x==("__debug__":Str))=false) :
   PE X (.Subscript (.Name x p) i pos) (fun σ H Q=>ty σ H fun y H1=>∃ z b,y=.str z∧tabAt tab z=some b∧Q (.ref b) H1):=by
 intro pins s σ H Q I h
 refine qt4 PySem.F.slot_dict_getitem.lookup hs (qbi I hg hm (thn (hi pins s σ H _ I h) fun iv s2 ⟨y,H2,I2,ry,z,b,ey,et,q2⟩=> ?_) hdb)
 subst ey
 have dd:=T.at_ _ I2.kIn
 exact⟨dd.typeIs,wpAny_getItem_of (qft (k:=Sum.inr z) ry) dd.mapOf (by rw[qoj,et];rfl) ⟨.ref b,H2,I2.tok _,rfl,q2⟩⟩
theorem qu0 (hg:Gl X x) (hm:X.mg x=some (.ref a)) (T:qr7 X.prog X.w X.K a tab) (hi:PE X i ty) (hdb:(x==("__debug__":Str))=false) :
   PC X .NotIn i (.Name x p) (fun σ H Q=>ty σ H fun y H1=>∃ z,y=.str z∧Q (.bl (!(tabAt tab z).isSome)) H1):=by
 intro pins s σ H Q I h
 refine thn (hi pins s σ H _ I h) fun iv s2 ⟨y,H2,I2,ry,z,ey,q2⟩=>qbi I2 hg hm ?_ hdb
 subst ey
 have dd:=T.at_ _ I2.kIn
 refine wpAny_notIn_of (qft (k:=Sum.inr z) ry) T.sys dd.mapOf ?_
 rw[qoj,Option.isSome_map]
 exact⟨.bl _,H2,I2.tok _,rfl,q2⟩
end
end L2
namespace T3
open PySem PySem.Spec PyProof.Rows L2
structure Md where
 gs:List (Str × Key):=[]
 ds:List (Str × List (Str × Addr)):=[]
 kt:List (Addr × List Str):=[]
structure qf9 (P:Program) (w:World) (K:PySem.W.Frag) (mg:Str→Option Value) (m:Md):Prop where
 gs:∀ p ∈ m.gs,∃ t,mg p.1=some (qyz p.2 t)
 ds:∀ p ∈ m.ds,∃ a,mg p.1=some (.ref a)∧qr7 P w K a p.2
 kt:∀ p ∈ m.kt,quy K p.1 p.2
theorem qf9.none {P:Program} {w:World} {K:PySem.W.Frag} {mg:Str→Option Value}:qf9 P w K mg {}:=⟨fun _ h=>by simp at h,fun _ h=>by simp at h,fun _ h=>by simp at h⟩
noncomputable def qu1 (tab:List (Str × Addr)) (y:D):M D:=match y with
 | .str z=>match tabAt tab z with
   | some b=>M.pure (.at_ b)
   | none=>M.fail
 | _=>M.fail
noncomputable def qu2 (tab:List (Str × Addr)) (y:D):M Bool:=match y with
 | .str z=>M.pure (!(tabAt tab z).isSome)
 | _=>M.fail
noncomputable def qp1 (kt:List (Addr × List Str)) (a:Addr):Option (List Str):=(kt.find? fun p=>decide (p.1=a)).map (·.2)
theorem qlt {kt:List (Addr × List Str)} {a:Addr} {ks:List Str} (h:qp1 kt a=some ks):(a,ks) ∈ kt:=by
 unfold qp1 at h
 obtain ⟨p,h1,h2⟩:=Option.map_eq_some_iff.mp h
 have e1:=List.find?_some h1
 have e2:=List.mem_of_find?_eq_some h1
 obtain ⟨a',ks'⟩:=p
 simp at e1 h2
 subst e1 h2
 exact e2
noncomputable def lenK (kt:List (Addr × List Str)) (ds:List D):M D:=match ds with
 | [.at_ a]=>match qp1 kt a with
   | some ks=>M.pure (.int ks.length)
   | none=>M.fail
 | _=>M.fail
noncomputable def qgj (d:D):M (List D × Src):=match d with
 | .str x=>if x.cps.all (· < 128)then M.pure (x.cps.toList.map fun c=>.str ⟨#[c]⟩,[])else M.fail
 | _=>M.fail
noncomputable def qj5 (kt:List (Addr × List Str)) (ds:List D):M (List D × Src):=match ds with
 | [.at_ a,d']=>match qp1 kt a with
   | some ks=>M.bind (qak d') fun r'=>M.pure (qer (ks.map D.str) r'.1,[]++r'.2)
   | none=>M.fail
 | _=>M.fail
noncomputable def splitM (o:D) (ds:List D):M D:=match o,ds with
 | .str z,[.str y]=>if decide (y.length ≠ 0) && decide (z.length+2≤sizeLine)then M.pure (.lst ((PySem.Txt.split z y).map D.str))else M.fail
 | _,_=>M.fail
theorem qfe {w:Wd} {H:Hp}:∀ xs:List Str,qb w H (xs.map D.str) (xs.map V.str)
 | []=>rfl
 | x::xs=>⟨_,_,rfl,rfl,qfe xs⟩
section
variable {X:Cx} {E:XW} {f:Env→M D} {fs:Env→M (List D)} {x:Str} {i a b tg:Expr} {p pos:Pos} {e:Expr} {es:List Expr}
theorem q3e {k:Key} {t:Tok} (hg:Gl X x) (hm:X.mg x=some (qyz k t)) (hdb:(x==("__debug__":Str))=false):PE X (.Name x p) (tD E fun _=>M.pure (qh8 k)) :=
 qdd (v:=kV k) (qrp hg hm hdb) fun w H=>by cases k <;> rfl
theorem q3f {c:Addr} {tab:List (Str × Addr)} (hg:Gl X x) (hm:X.mg x=some (.ref c)) (T:qr7 X.prog X.w X.K c tab) (hi:PE X i (tD E f)) (hs:qyc i) (hdb:(x==("__debug__":Str))=false):PE X (.Subscript (.Name x p) i pos) (tD E fun Γ=>M.bind (f Γ) (qu1 tab)):=by
 refine PE.mono (quz hg hm T hi hs hdb) fun σ H Q ⟨w,Γ,S,rel,hold,q⟩=> ?_
 refine qe (k:=fun y _=>qu1 tab y) rel hold q fun dy y S1 w1 H1 l1 rel1 h1 ry q1=> ?_
 unfold qu1 at q1
 cases dy <;> first | exact False.elim q1 | skip
 rename_i z
 dsimp only at q1
 cases e1:tabAt tab z with
 | none=>rw[e1]at q1;exact False.elim q1
 | some b=>rw[e1]at q1;exact⟨z,b,ry,e1,now h1 (d:=.at_ b) rfl q1⟩
theorem q3g {c:Addr} {tab:List (Str × Addr)} (hg:Gl X x) (hm:X.mg x=some (.ref c)) (T:qr7 X.prog X.w X.K c tab) (hi:PE X i (tD E f)) (hdb:(x==("__debug__":Str))=false):PT X (.Compare i [.NotIn] [.Name x p] pos) (T3.tB E fun Γ=>M.bind (f Γ) (qu2 tab)):=by
 refine PT.mono (qwu (qu0 hg hm T hi hdb) rfl) fun σ H Q ⟨w,Γ,S,rel,hold,q⟩=> ?_
 refine qe (k:=fun y _=>qu2 tab y) rel hold q fun dy y S1 w1 H1 l1 rel1 h1 ry q1=> ?_
 unfold qu2 at q1
 cases dy <;> first | exact False.elim q1 | skip
 rename_i z
 exact⟨z,ry,_,rfl,q1 _ _ (Le.refl _ _) h1⟩
theorem qr8 {K:PySem.W.Frag} {H:Hp} {c:Addr} {ks:List Str} (h:quy K c ks):SqT K H c (ks.map V.str):=.inr h
theorem qu3 {kt:List (Addr × List Str)} (h:∀ q ∈ kt,quy X.K q.1 q.2):qbr X (.builtin "len") (lenK kt):=by
 refine⟨_,qej,fun E w H S ds vs Q hh rv q=> ?_⟩
 unfold lenK at q
 split at q
 case h_2=>exact False.elim q
 case h_1 c =>
   obtain ⟨v,rfl,r⟩:=rv.one_
   cases (show v=.ref c from r)
   cases e1:qp1 kt c with
   | none=>rw[e1]at q;exact False.elim q
   | some ks =>
     rw[e1]at q
     have:=now hh (d:=.int _) rfl q
     exact⟨c,ks.map V.str,rfl,.inr (qr8 (h _ (qlt e1))),by rw[List.length_map];exact this⟩
theorem qnc {w:Wd} {H:Hp} {z:Str}:Walks (Its z) w H [] (z.cps.toList.map fun c=>D.str ⟨#[c]⟩):=by
 refine⟨fun w' H' S' i l hh hs hi=> ?_,fun w' H' S' l hh hs=> ?_,fun w' H' S' i v H'' l hh hs hi y=> ?_⟩
 · have:i < z.cps.size:=by simpa using hi
   exact this
 · show z.cps.size≤_
   simp
 · obtain ⟨rfl,c,h1,rfl⟩:=y
   refine⟨w',.str ⟨#[c]⟩,?_,Le.refl _ _,hh,rfl⟩
   rw[List.getElem?_map,Array.getElem?_toList,h1];rfl
theorem qu4 (he:PE X i (tD E f)):PI X tg i (tI E fun Γ=>M.bind (f Γ) qgj):=by
 refine PI.mono (quc he) fun σ H R ⟨w,Γ,S,rel,hold,q⟩=> ?_
 refine qe (k:=fun d _=>qgj d) rel hold q fun d v S1 w1 H1 l1 rel1 h1 rv q1=> ?_
 unfold qgj at q1
 cases d <;> first | exact False.elim q1 | skip
 rename_i z
 obtain ⟨hz,q1⟩:=Wp.iteF q1
 exact⟨z,rv,hz,q1 _ _ (Le.refl _ _) h1 _ qnc⟩
theorem qz3 {elts:List Expr} {k:Nat} {pos':Pos} {kt:List (Addr × List Str)} (h:∀ q ∈ kt,quy X.K q.1 q.2) (hg:Gl X "zip") (hm:X.mg "zip"=none) (ha:PA X [a,b] (tL E fs)) (hs:starEach [a,b] X.env=[(false,eval a X.env),(false,eval b X.env)]) (hs2:starEach [b] X.env=[(false,eval b X.env)]) :
   PI X (.Tuple elts k pos') (.Call (.Name "zip" p) [a,b] [] pos) (tI E fun Γ=>M.bind (fs Γ) (qj5 kt)):=by
 refine PI.mono (qq8 hg hm ha hs hs2) fun σ H R ⟨w,Γ,S,rel,hold,q⟩=> ?_
 refine qa1 (k:=fun ds _=>qj5 kt ds) rel hold q fun ds vs S1 w1 H1 l1 rel1 h1 rv q1=> ?_
 unfold qj5 at q1
 split at q1
 case h_2=>exact False.elim q1
 case h_1 c d' =>
   obtain ⟨v,v',rfl,r,r'⟩:=rv.two_
   cases (show v=.ref c from r)
   cases e1:qp1 kt c with
   | none=>rw[e1]at q1;exact False.elim q1
   | some ks =>
     rw[e1]at q1
     dsimp only at q1
     have q2:=Wp.bind q1
     cases e2:qak d' S1 with
     | no=>rw[e2]at q2;exact False.elim q2
     | err x S2=>exact absurd e2 qc3
     | ok rr' S3 =>
       rw[e2]at q2
       obtain ⟨items',src'⟩:=rr'
       obtain ⟨rfl,b2,a2,vs2,rfl,k1',k2'⟩:=qrx (K:=X.K) h1 r' e2
       have sq:∀ H,SqS X.K false H c (ks.map V.str):=fun H=>qr8 (h _ (qlt e1))
       exact⟨false,b2,c,a2,rfl,⟨_,sq _⟩,⟨vs2,k1'⟩,q2 _ _ (Le.refl _ _) h1 _ _ (Le.refl _ _) h1 _ (qi2 (src:=[]) (fun w' H' S' _ _ _=>⟨_,sq _,qfe ks⟩) k2')⟩
theorem qi9:MtT X "str.split" splitM:=by
 refine⟨_,qro,fun E w H S o ds x vs Q h r rv q=> ?_⟩
 unfold splitM at q
 split at q
 case h_2=>exact False.elim q
 case h_1 z y =>
   obtain ⟨v,rfl,rd⟩:=rv.one_
   obtain ⟨hz,q⟩:=Wp.iteF q
   rw[Bool.and_eq_true]at hz
   cases (show v=.str y from rd)
   refine⟨z,y,r,rfl,of_decide_eq_true hz.1,of_decide_eq_true hz.2,fun p hp=> ?_⟩
   exact qae (new:=false) h (qfe _) q hp
end
set_option genSizeOf false
set_option genInjectivity false
inductive Bi where
 | len | sum | all | any | min | max | list (new:Bool) | tuple | int | str | isi | keys (new:Bool) | sorted (new:Bool)
inductive Mt where
 | append | insert | pop | clear | join | index | split
mutual
inductive CE where
 | var (i:Nat) | int (i:Int) | str (x:Str) | bl (b:Bool) | non | ty (n:String)
 | bin (new:Bool) (op:Operator) (a b:CE) | neg (a:CE) | cmp (op:CmpOp) (a b:CE) | chain (o p:CmpOp) (a b c:CE)
 | and (a b:CE) | or (a b:CE) | not (a:CE) | one (a:CE) | ife (c:CB) (a b:CE)
 | tup (as:CL) | lst (new:Bool) (as:CL) | dnil (new:Bool)
 | ix (a i:CE) | sl (new:Bool) (a:CE) (lo hi:CO)
 | call (j:Nat) (as:CL) | bi (b:Bi) (as:CL) | mt (m:Mt) (o:CE) (as:CL)
 | lc (new:Bool) (n:Nat) (t:CG) (i:CI) (c:CF) (e:CE) | dc (new:Bool) (n:Nat) (t:CG) (i:CI) (c:CF) (k e:CE)
 | frz (a:CE) | lset (a:CE) | con (x:Str) (k:Key) | itm (x:Str) (tab:List (Str × Addr)) (a:CE) | lenK (kt:List (Addr × List Str)) (as:CL) | lc2 (n n2:Nat) (t:CG) (i:CI) (t2:CG) (i2:CI) (c:CF) (e:CE)
inductive CB where
 | cmp (op:CmpOp) (a b:CE) | chain (o p:CmpOp) (a b c:CE) | and (a b:CB) | or (a b:CB) | not (a:CB) | one (a:CB) | tru (a:CE) | nin (x:Str) (tab:List (Str × Addr)) (a:CE)
inductive CL where
 | nil | cons (a:CE) (r:CL)
inductive CO where
 | no | at_ (a:CE)
inductive CI where
 | seq (a:CE) | keys (a:CE) | rng1 (as:CL) | rng2 (as:CL) | enum (as:CL) | zip (as:CL) | chars (a:CE) | zipK (kt:List (Addr × List Str)) (as:CL)
inductive CG where
 | nm (i:Nat) | tg (ts:CT) | sub (o i:CE)
inductive CT where
 | nil | cons (a:CG) (r:CT)
inductive CF where
 | yes | if_ (b:CB)
end
mutual
inductive CS where
 | pass | ex (a:CE) | ret (a:CE) | retN | sif (c:CB) (a b:CSL) | asg (t:CG) (e:CE) | set (i:Nat) (e:CE) | par (i j:Nat) (as:CL)
 | aug (op:Operator) (i:Nat) (e:CE) | augIx (op:Operator) (o i e:CE) | sfor (t:CG) (i:CI) (b:CSL) | swhile (c:CB) (b:CSL) | brk | cont | rse
inductive CSL where
 | nil | cons (a:CS) (r:CSL) | gh (i:Nat) (r:CSL)
end
noncomputable def q3h (t n:String):Bool:=t==n || (t=="bool" && n=="int")
noncomputable def tys:List String:=["NoneType","bool","int","str","list","tuple","dict"]
noncomputable def tyn:List String:=["bool","int","str","list","tuple","dict"]
theorem qu5 (K:PySem.W.Frag):∀ t ∈ tys,∀ n ∈ tyn,PySem.W.kitOne K (.type t) (.type n)=some (q3h t n):=by
 intro t ht n hn
 simp only [tys,tyn,List.mem_cons,List.not_mem_nil,or_false]at ht hn
 rcases ht with rfl | rfl | rfl | rfl | rfl | rfl | rfl <;> rcases hn with rfl | rfl | rfl | rfl | rfl | rfl <;> rfl
noncomputable def qp2:D→Option String
 | .non=>some "NoneType"
 | .bl _=>some "bool"
 | .int _=>some "int"
 | .str _=>some "str"
 | .lst _=>some "list"
 | .tup _=>some "tuple"
 | _=>none
theorem qu6 {d:D} {t:String} (h:qp2 d=some t):t ∈ tys:=by
 cases d <;> simp only [qp2]at h <;> first | (cases h;done) | (cases h;decide)
noncomputable def qz4 (ds:List D):M D:=match ds with
 | [d,.ty n]=>fun S=>match qp2 (look d S)with
   | some t=>(if tyn.contains n then M.pure (.bl (q3h t n))else M.fail) S
   | none=>.no
 | _=>M.fail
theorem qu7 {K:PySem.W.Frag} {w:Wd} {H:Hp} {S:Sto} {d:D} {v:V} {t:String} (h:qf w H S) (r:Rep w H d v) (e:qp2 (look d S)=some t):qeh K H v (.type t):=by
 cases e1:look d S <;> rw[e1]at e <;> simp only [qp2]at e <;> first | (cases e;done) | skip
 case non=>cases e;rw[qep r e1];exact .non
 case bl b=>cases e;rw[qn4 r e1];exact .bl b
 case int b=>cases e;rw[qp r e1];exact .int b
 case str b=>cases e;rw[qa8 r e1];exact .str b
 case lst xs=>cases e;obtain ⟨p,vs,rfl,hp,_⟩:=qk h r e1;exact .lst hp
 case tup xs=>cases e;obtain ⟨p,vs,rfl,hp,_⟩:=qaa h r e1;exact .tup hp
theorem qz5 {X:Cx}:qbr X (.builtin "isinstance") qz4:=by
 refine⟨_,qq1,fun E w H S ds vs Q h rv q=> ?_⟩
 unfold qz4 at q
 split at q
 case h_2=>exact False.elim q
 case h_1 d n =>
   obtain ⟨v,v',rfl,r,r'⟩:=rv.two_
   cases (show v'=.ty n from r')
   cases e:qp2 (look d S)with
   | none=>rw[e]at q;exact False.elim q
   | some t =>
     rw[e]at q
     obtain ⟨hn,q⟩:=Wp.iteF q
     exact⟨v,n,_,_,rfl,qu7 h r e,qu5 _ t (qu6 e) n (by simpa using hn),now h (d:=.bl _) rfl q⟩
noncomputable def Bi.name:Bi→Str
 | .len=>"len" | .sum=>"sum" | .all=>"all" | .any=>"any" | .min=>"min" | .max=>"max" | .list _=>"list" | .tuple=>"tuple" | .int=>"int" | .str=>"str" | .isi=>"isinstance" | .keys _=>"list" | .sorted _=>"sorted"
noncomputable def biF:Bi→List D→M D
 | .len=>qy1 | .sum=>qct qpo | .all=>qct qrq | .any=>qct qy3 | .min=>minD | .max=>maxD | .list new=>qrr new | .tuple=>qy9 | .int=>intD | .str=>qzc | .isi=>qz4 | .keys new=>qnb new | .sorted new=>qj3 new
noncomputable def Mt.name:Mt→Str
 | .append=>"append" | .insert=>"insert" | .pop=>"pop" | .clear=>"clear" | .join=>"join" | .index=>"index" | .split=>"split"
noncomputable def mtF:Mt→D→List D→M D
 | .append=>qjv | .insert=>qjw | .pop=>qzw | .clear=>qm6 | .join=>joinM | .index=>qm8 | .split=>splitM
noncomputable def mtT:Mt→D→Bool
 | .join=>isS
 | .split=>isS
 | _=>isL
noncomputable def qlu:CT→Nat
 | .cons _ r=>qlu r+1
 | .nil=>0
noncomputable def qa3 (Φ:List Fd) (fns:List (Str × Nat × Nat)) (j:Nat) (ds:List D):M D:=match Φ[j]?,fns[j]? with
 | some F,some (_,n,_)=>qbl n F ds
 | _,_=>M.fail
mutual
noncomputable def evE (Φ:List Fd) (fns:List (Str × Nat × Nat)):CE→Env→M D
 | .var i=>qdz i
 | .int i=>fun _=>M.pure (.int i)
 | .str x=>fun _=>M.pure (.str x)
 | .bl b=>fun _=>M.pure (.bl b)
 | .non=>fun _=>M.pure .non
 | .ty n=>fun _=>M.pure (.ty n)
 | .bin new op a b=>fun Γ=>M.bind (evE Φ fns a Γ) fun x=>M.bind (evE Φ fns b Γ) fun y=>qjn new op x y
 | .neg a=>fun Γ=>M.bind (evE Φ fns a Γ) qrj
 | .cmp op a b=>fun Γ=>M.bind (evE Φ fns a Γ) fun x=>M.bind (evE Φ fns b Γ) fun y=>qca op x y
 | .chain o p a b c=>qg2 (qca o) (qca p) (evE Φ fns a) (evE Φ fns b) (evE Φ fns c)
 | .and a b=>qyv (evE Φ fns a) (evE Φ fns b)
 | .or a b=>orV (evE Φ fns a) (evE Φ fns b)
 | .one a=>evE Φ fns a
 | .not a=>q2j (evE Φ fns a)
 | .ife c a b=>ifE (evB Φ fns c) (evE Φ fns a) (evE Φ fns b)
 | .tup as=>fun Γ=>M.bind (evA Φ fns as Γ) mkT
 | .lst new as=>fun Γ=>M.bind (evA Φ fns as Γ) (mkL new)
 | .dnil new=>fun _=>alloc new (.dct [] [])
 | .ix a i=>fun Γ=>M.bind (evE Φ fns a Γ) fun x=>M.bind (evE Φ fns i Γ) fun y S=>ixM (look x S) y S
 | .sl new a lo hi=>slD new (evE Φ fns a) (evO Φ fns lo) (evO Φ fns hi)
 | .call j as=>fun Γ=>M.bind (evA Φ fns as Γ) (qa3 Φ fns j)
 | .bi b as=>fun Γ=>M.bind (evA Φ fns as Γ) (biF b)
 | .mt m o as=>mtD (mtT m) (evE Φ fns o) (evA Φ fns as) (mtF m)
 | .lc new n t i c e=>lcD new n (evI Φ fns i) (evG Φ fns t) (evF Φ fns c) (evE Φ fns e)
 | .dc new n t i c k e=>dcD new n (evI Φ fns i) (evG Φ fns t) (evF Φ fns c) (evE Φ fns k) (evE Φ fns e)
 | .frz a=>fun Γ=>M.bind (evE Φ fns a Γ) qh6
 | .lset a=>fun Γ=>M.bind (evE Φ fns a Γ) qj4
 | .con _ k=>fun _=>M.pure (qh8 k)
 | .itm _ tab a=>fun Γ=>M.bind (evE Φ fns a Γ) (qu1 tab)
 | .lenK kt as=>fun Γ=>M.bind (evA Φ fns as Γ) (lenK kt)
 | .lc2 n n2 t i t2 i2 c e=>q27 n n2 (evI Φ fns i) (evG Φ fns t) (evI Φ fns i2) (evG Φ fns t2) (evF Φ fns c) (evE Φ fns e)
noncomputable def evB (Φ:List Fd) (fns:List (Str × Nat × Nat)):CB→Env→M Bool
 | .cmp op a b=>fun Γ=>M.bind (M.bind (evE Φ fns a Γ) fun x=>M.bind (evE Φ fns b Γ) fun y=>qca op x y) asB
 | .chain o p a b c=>fun Γ=>M.bind (qg2 (qca o) (qca p) (evE Φ fns a) (evE Φ fns b) (evE Φ fns c) Γ) asB
 | .and a b=>q2i (evB Φ fns a) (evB Φ fns b)
 | .or a b=>orB (evB Φ fns a) (evB Φ fns b)
 | .one a=>evB Φ fns a
 | .not a=>qyt (evB Φ fns a)
 | .tru a=>fun Γ=>M.bind (evE Φ fns a Γ) qpk
 | .nin _ tab a=>fun Γ=>M.bind (evE Φ fns a Γ) (qu2 tab)
noncomputable def evF (Φ:List Fd) (fns:List (Str × Nat × Nat)):CF→Env→M Bool
 | .yes=>fun _=>M.pure true
 | .if_ a=>evB Φ fns a
noncomputable def evA (Φ:List Fd) (fns:List (Str × Nat × Nat)):CL→Env→M (List D)
 | .nil=>fun _=>M.pure []
 | .cons a r=>qrn (evE Φ fns a) (evA Φ fns r)
noncomputable def evO (Φ:List Fd) (fns:List (Str × Nat × Nat)):CO→Env→M (Option Int)
 | .no=>fun _=>M.pure none
 | .at_ a=>fun Γ=>M.bind (evE Φ fns a Γ) asI
noncomputable def evI (Φ:List Fd) (fns:List (Str × Nat × Nat)):CI→MI
 | .seq a=>fun Γ=>M.bind (evE Φ fns a Γ) qak
 | .keys a=>fun Γ=>M.bind (evE Φ fns a Γ) qj2
 | .rng1 as=>fun Γ=>M.bind (evA Φ fns as Γ) qd0
 | .rng2 as=>fun Γ=>M.bind (evA Φ fns as Γ) qjt
 | .enum as=>fun Γ=>M.bind (evA Φ fns as Γ) qd1
 | .zip as=>fun Γ=>M.bind (evA Φ fns as Γ) qg8
 | .chars a=>fun Γ=>M.bind (evE Φ fns a Γ) qgj
 | .zipK kt as=>fun Γ=>M.bind (evA Φ fns as Γ) (qj5 kt)
noncomputable def evG (Φ:List Fd) (fns:List (Str × Nat × Nat)):CG→D→Env→M Env
 | .nm i=>qzi i
 | .tg ts=>qrt (qlu ts) (evT Φ fns ts)
 | .sub o i=>qzl (evE Φ fns o) (evE Φ fns i)
noncomputable def evT (Φ:List Fd) (fns:List (Str × Nat × Nat)):CT→List D→Env→M Env
 | .nil=>qrs
 | .cons a r=>qjr (evG Φ fns a) (evT Φ fns r)
end
mutual
noncomputable def evS (Φ:List Fd) (fns:List (Str × Nat × Nat)):CS→MS
 | .pass=>qn9
 | .ex a=>fun Γ=>M.bind (evE Φ fns a Γ) fun _=>M.pure (.nx,Γ)
 | .ret a=>fun Γ=>M.bind (evE Φ fns a Γ) fun d=>M.pure (.rt d,Γ)
 | .retN=>fun Γ=>M.pure (.rt .non,Γ)
 | .sif c a b=>ifS (evB Φ fns c) (qai Φ fns a) (qai Φ fns b)
 | .asg t e=>fun Γ=>M.bind (evE Φ fns e Γ) fun d=>M.bind (evG Φ fns t d Γ) fun Γ'=>M.pure (.nx,Γ')
 | .set i e=>fun Γ=>M.bind (evE Φ fns e Γ) fun d=>M.pure (.nx,Γ.set i (some d))
 | .par i j as=>q2y i j (evA Φ fns as)
 | .aug op i e=>quj op i (evE Φ fns e)
 | .augIx op o i e=>augIx op (evE Φ fns o) (evE Φ fns i) (evE Φ fns e)
 | .sfor t i b=>qzq (evI Φ fns i) (evG Φ fns t) (qai Φ fns b)
 | .swhile c b=>qm4 (evB Φ fns c) (qai Φ fns b)
 | .brk=>fun Γ=>M.pure (.bk,Γ)
 | .cont=>fun Γ=>M.pure (.ct,Γ)
 | .rse=>fun _=>M.fail
noncomputable def qai (Φ:List Fd) (fns:List (Str × Nat × Nat)):CSL→MS
 | .nil=>qn9
 | .cons a r=>seqS (evS Φ fns a) (qai Φ fns r)
 | .gh i r=>ghS i (qai Φ fns r)
end
set_option genInjectivity false in
structure Sx where
 N:List Str
 sc:Scope
 fnb:Str→Bool
 fns:List (Str × Nat × Nat)
 L:Nat
 bs:List Str
 md:Md
noncomputable def Sx.inner (s:Sx) (ts Mk:List Str) (scope:Scope):Sx:={ s with N:=ts++Mk,sc:=qir scope s.sc,fnb:=fun x=>scope.names.lookup x==some .cell }
noncomputable def qz6 (sc:Scope) (x:Str):Bool:=match sc.names.lookup x with
 | some .local=>true
 | some .cell=>true
 | some .free=>true
 | _=>false
noncomputable def qz7 (sc:Scope) (x:Str):Bool:=match sc.names.lookup x with
 | some .local=>true
 | some .cell=>true
 | _=>false
noncomputable def lcl (sc:Scope) (x:Str):Bool:=sc.names.lookup x==some .local
noncomputable def qaq (s:Sx) (i:Nat) (x:Str):Bool:=decide (s.N[i]? =some x) && qz6 s.sc x && !(x==("__debug__":Str)) && !(x==("__classdict__":Str))
noncomputable def qet (s:Sx) (i:Nat) (x:Str):Bool:=decide (s.N[i]? =some x) && qz7 s.sc x && (s.fnb x || lcl s.sc x)
noncomputable def qcm (s:Sx) (x:Str):Bool:=s.sc.names.lookup x==some .globalImplicit && !(x==("__debug__":Str)) && decide (x ≠ "__name__")
noncomputable def okB (s:Sx) (x:Str):Bool:=qcm s x && s.bs.any (fun y=>decide (y=x))
mutual
noncomputable def tgs:CG→List Nat
 | .nm i=>[i]
 | .tg ts=>qr9 ts
 | .sub _ _=>[]
noncomputable def qr9:CT→List Nat
 | .cons a r=>tgs a++qr9 r
 | .nil=>[]
end
mutual
noncomputable def nms:CG→Bool
 | .nm _=>true
 | .tg ts=>qu8 ts
 | .sub _ _=>false
noncomputable def qu8:CT→Bool
 | .cons a r=>nms a && qu8 r
 | .nil=>true
end
noncomputable def isTup:Expr→Bool
 | .Tuple _ _ _=>true
 | _=>false
noncomputable def tsN:Expr→List Str
 | .Name x _=>[x]
 | _=>[]
noncomputable def qac:Expr→List Str
 | .Name x _=>[x]
 | .Tuple es _ _=>es.flatMap fun e=>match e with
   | .Tuple es' _ _=>es'.flatMap tsN
   | e=>tsN e
 | _=>[]
noncomputable def qff (N:List Str) (t:Expr):List Str:=N.map fun x=>if (qac t).any (fun y=>decide (y=x))then (".":Str)++x else x
noncomputable def mkN (N ts:List Str):List Str:=N.map fun x=>if ts.any (fun y=>decide (y=x))then (".":Str)++x else x
mutual
noncomputable def qv (s:Sx):CE→Expr→Bool
 | .var i,e=>match e with
   | .Name x _=>qaq s i x
   | _=>false
 | .int i,e=>match e with
   | .Constant (.int j) _ _=>decide (i=j)
   | _=>false
 | .str i,e=>match e with
   | .Constant (.str j) _ _=>decide (i=j)
   | _=>false
 | .bl i,e=>match e with
   | .Constant (.bool j) _ _=>decide (i=j)
   | _=>false
 | .non,e=>match e with
   | .Constant .none _ _=>true
   | _=>false
 | .ty n,e=>match e with
   | .Name x _=>decide (x=(n:Str)) && okB s x && tyn.contains n
   | _=>false
 | .bin _ op a b,e=>match e with
   | .BinOp x o y _=>decide (op=o) && qv s a x && qv s b y
   | _=>false
 | .neg a,e=>match e with
   | .UnaryOp .USub x _=>qv s a x
   | _=>false
 | .cmp op a b,e=>match e with
   | .Compare x [o] [y] _=>decide (op=o) && qbq y && qv s a x && qv s b y
   | _=>false
 | .chain o p a b c,e=>match e with
   | .Compare x [o',p'] [y,z] _=>decide (o=o') && decide (p=p') && qbq z && qv s a x && qv s b y && qv s c z
   | _=>false
 | .and a b,e=>match e with
   | .BoolOp .And (x::y::r) p=>qv s a x && qv s b (.BoolOp .And (y::r) p)
   | _=>false
 | .or a b,e=>match e with
   | .BoolOp .Or (x::y::r) p=>qv s a x && qv s b (.BoolOp .Or (y::r) p)
   | _=>false
 | .one a,e=>match e with
   | .BoolOp _ [x] _=>qv s a x
   | _=>false
 | .not a,e=>match e with
   | .UnaryOp .Not x _=>qv s a x
   | _=>false
 | .ife c a b,e=>match e with
   | .IfExp z x y _=>qfg s c z && qv s a x && qv s b y
   | _=>false
 | .tup as,e=>match e with
   | .Tuple es _ _=>qdl s as es
   | _=>false
 | .lst _ as,e=>match e with
   | .List es _=>qdl s as es
   | _=>false
 | .dnil _,e=>match e with
   | .Dict [] [] _=>true
   | _=>false
 | .ix a i,e=>match e with
   | .Subscript x y _=>qb2 y && qv s a x && qv s i y
   | _=>false
 | .sl _ a lo hi,e=>match e with
   | .Subscript x (.Slice l h none _) _=>qv s a x && qz8 s lo l && qz8 s hi h
   | _=>false
 | .call j as,e=>match e with
   | .Call (.Name x _) es [] _=>qcm s x && (match s.fns[j]? with | some (y,n,k)=>decide (x=y) && decide (n=es.length) && decide (k≤s.L) | none=>false) && es.all notStar && qdl s as es
   | _=>false
 | .bi b as,e=>match e with
   | .Call (.Name x _) es [] _=>okB s x && decide (x=b.name) && !es.isEmpty && es.all notStar && qdl s as es
   | _=>false
 | .mt m o as,e=>match e with
   | .Call (.Attribute x n p) es [] q=>decide (n=m.name) && qhe x && (p.endLine==q.line) && es.all notStar && decide (es.length < 30) && qv s o x && qdl s as es
   | _=>false
 | .lc _ n t i c el,e=>match e with
   | .ListComp x [g] scope _=>decide (g.is_async=0) && qe1 s.N s.sc (qac g.target) (qff s.N g.target) scope && qbq g.iter && qp3 s i g.target g.iter && qlv (s.inner (qac g.target) (qff s.N g.target) scope) t g.target && (tgs t).all (fun k=>decide (k < n)) && nms t && qu9 (s.inner (qac g.target) (qff s.N g.target) scope) c g.ifs && qv (s.inner (qac g.target) (qff s.N g.target) scope) el x && decide ((qac g.target).length=n)
   | _=>false
 | .dc _ n t i c k el,e=>match e with
   | .DictComp y x [g] scope _=>decide (g.is_async=0) && qe1 s.N s.sc (qac g.target) (qff s.N g.target) scope && qbq g.iter && qp3 s i g.target g.iter && qlv (s.inner (qac g.target) (qff s.N g.target) scope) t g.target && (tgs t).all (fun k=>decide (k < n)) && nms t && qu9 (s.inner (qac g.target) (qff s.N g.target) scope) c g.ifs && qv (s.inner (qac g.target) (qff s.N g.target) scope) k y && qv (s.inner (qac g.target) (qff s.N g.target) scope) el x && decide ((qac g.target).length=n)
   | _=>false
 | .frz a,e=>qv s a e
 | .con x k,e=>match e with
   | .Name y _=>decide (x=y) && qcm s x && s.md.gs.any (fun p=>decide (p=(x,k)))
   | _=>false
 | .itm x tab a,e=>match e with
   | .Subscript z i _=>match z with
     | .Name y _=>decide (x=y) && qcm s x && s.md.ds.any (fun p=>decide (p=(x,tab))) && qb2 i && qv s a i
     | _=>false
   | _=>false
 | .lenK kt as,e=>match e with
   | .Call (.Name x _) es [] _=>okB s x && decide (x="len") && !es.isEmpty && es.all notStar && decide (kt=s.md.kt) && qdl s as es
   | _=>false
 | .lset a,e=>match e with
   | .Call (.Name x _) [w] [] _=>match w with
     | .Call (.Name y _) [z] [] _=>decide (x="len") && decide (y="set") && okB s x && okB s y && notStar z && qv s a z
     | _=>false
   | _=>false
 | .lc2 n n2 t i t2 i2 c el,e=>match e with
   | .ListComp x [g,g2] scope _=>decide (g.is_async=0) && decide (g2.is_async=0) && g.ifs.isEmpty && qe1 s.N s.sc (qac g2.target++qac g.target) (mkN s.N (qac g2.target++qac g.target)) scope && qbq g.iter && qbq g2.iter && qp3 s i g.target g.iter && qlv (s.inner (qac g2.target++qac g.target) (mkN s.N (qac g2.target++qac g.target)) scope) t g.target && (tgs t).all (fun k=>decide (k < n)) && nms t && qp3 (s.inner (qac g2.target++qac g.target) (mkN s.N (qac g2.target++qac g.target)) scope) i2 g2.target g2.iter && qlv (s.inner (qac g2.target++qac g.target) (mkN s.N (qac g2.target++qac g.target)) scope) t2 g2.target && (tgs t2).all (fun k=>decide (k < n2)) && nms t2 && qu9 (s.inner (qac g2.target++qac g.target) (mkN s.N (qac g2.target++qac g.target)) scope) c g2.ifs && qv (s.inner (qac g2.target++qac g.target) (mkN s.N (qac g2.target++qac g.target)) scope) el x && decide (n=(qac g2.target++qac g.target).length) && decide (n2≤n)
   | _=>false
noncomputable def qfg (s:Sx):CB→Expr→Bool
 | .cmp op a b,e=>match e with
   | .Compare x [o] [y] _=>decide (op=o) && qbq y && qv s a x && qv s b y
   | _=>false
 | .chain o p a b c,e=>match e with
   | .Compare x [o',p'] [y,z] _=>decide (o=o') && decide (p=p') && qbq z && qv s a x && qv s b y && qv s c z
   | _=>false
 | .and a b,e=>match e with
   | .BoolOp .And (x::y::r) p=>qfg s a x && qfg s b (.BoolOp .And (y::r) p)
   | _=>false
 | .or a b,e=>match e with
   | .BoolOp .Or (x::y::r) p=>qfg s a x && qfg s b (.BoolOp .Or (y::r) p)
   | _=>false
 | .one a,e=>match e with
   | .BoolOp _ [x] _=>qfg s a x
   | _=>false
 | .not a,e=>match e with
   | .UnaryOp .Not x _=>qfg s a x
   | _=>false
 | .tru a,e=>plainT e && qv s a e
 | .nin x tab a,e=>match e with
   | .Compare i [o] [z] _=>match z with
     | .Name y _=>decide (o=.NotIn) && decide (x=y) && qcm s x && s.md.ds.any (fun p=>decide (p=(x,tab))) && qv s a i
     | _=>false
   | _=>false
noncomputable def qu9 (s:Sx):CF→List Expr→Bool
 | .yes,es=>es.isEmpty
 | .if_ a,es=>match es with
   | [x]=>qfg s a x
   | _=>false
noncomputable def qdl (s:Sx):CL→List Expr→Bool
 | .nil,es=>es.isEmpty
 | .cons a r,es=>match es with
   | x::xs=>notStar x && qv s a x && qdl s r xs
   | []=>false
noncomputable def qz8 (s:Sx):CO→Option Expr→Bool
 | .no,o=>o.isNone
 | .at_ a,o=>match o with
   | some x=>qv s a x
   | none=>false
noncomputable def qp3 (s:Sx):CI→Expr→Expr→Bool
 | .seq a,_,e=>qv s a e
 | .keys a,_,e=>qv s a e
 | .rng1 as,_,e=>match e with
   | .Call (.Name x _) [y] [] _=>decide (x="range") && okB s x && notStar y && qdl s as [y]
   | _=>false
 | .rng2 as,_,e=>match e with
   | .Call (.Name x _) [y,z] [] _=>decide (x="range") && okB s x && notStar y && notStar z && qdl s as [y,z]
   | _=>false
 | .enum as,t,e=>match e with
   | .Call (.Name x _) [y] [] _=>isTup t && decide (x="enumerate") && okB s x && notStar y && qdl s as [y]
   | _=>false
 | .zip as,t,e=>match e with
   | .Call (.Name x _) [y,z] [] _=>isTup t && decide (x="zip") && okB s x && notStar y && notStar z && qdl s as [y,z]
   | _=>false
 | .chars a,_,e=>qv s a e
 | .zipK kt as,t,e=>match e with
   | .Call (.Name x _) [y,z] [] _=>isTup t && decide (x="zip") && okB s x && notStar y && notStar z && decide (kt=s.md.kt) && qdl s as [y,z]
   | _=>false
noncomputable def qlv (s:Sx):CG→Expr→Bool
 | .nm i,e=>match e with
   | .Name x _=>qet s i x
   | _=>false
 | .tg ts,e=>match e with
   | .Tuple es _ _=>es.all notStar && decide (es.length=qlu ts) && qz9 s ts es
   | _=>false
 | .sub o i,e=>match e with
   | .Subscript x y _=>qb2 y && qv s o x && qv s i y
   | _=>false
noncomputable def qz9 (s:Sx):CT→List Expr→Bool
 | .nil,es=>es.isEmpty
 | .cons a r,es=>match es with
   | x::xs=>notStar x && qlv s a x && qz9 s r xs
   | []=>false
end
structure Gd (CX:CXT) (Φ:List Fd) (s:Sx) (X:Cx) (E':XK):Prop where
 hN:X.N=s.N
 hsc:X.env.scope=s.sc
 hfn:X.fn=s.fnb
 calm:X.calm=true
 room:qam s.L X.A
 own:PassesOwn (model X.prog X.w) X.A X.env X.xe
 pass:Passes CX X E'
 nd:s.N.Nodup
 blt:∀ b ∈ s.bs,X.mg b=none
 md:qf9 X.prog X.w X.K X.mg s.md
 fns:∀ (j:Nat) (x:Str) (n k:Nat),s.fns[j]? =some (x,n,k)→∃ F,Φ[j]? =some F∧FnT CX X.prog X.w X.K X.mg X.base x n k F
section
variable {CX:CXT} {Φ:List Fd} {s:Sx} {X:Cx} {E':XK}
theorem qhi {sc:Scope} {x:Str} (h:qz6 sc x=true):Vis sc x:=by
 unfold qz6 at h
 unfold Vis
 cases e:sc.names.lookup x with
 | none=>rw[e]at h;cases h
 | some k=>rw[e]at h;cases k <;> first | (cases h;done) | simp
theorem qsa {sc:Scope} {x:Str} (h:qz7 sc x=true):L2.Loc sc x:=by
 unfold qz7 at h
 unfold L2.Loc
 cases e:sc.names.lookup x with
 | none=>rw[e]at h;cases h
 | some k=>rw[e]at h;cases k <;> first | (cases h;done) | simp
theorem Gd.var (G:Gd CX Φ s X E') {i:Nat} {x:Str} {pos:Pos} (h:qaq s i x=true) {E:XW}:PE X (.Name x pos) (tD E (qdz i)):=by
 unfold qaq at h
 simp only [Bool.and_eq_true,Bool.not_eq_true',decide_eq_true_eq]at h
 exact q2e (by rw[G.hN];exact h.1.1.1) (by rw[G.hsc];exact qhi h.1.1.2) h.1.2 h.2
theorem Gd.gl (G:Gd CX Φ s X E') {x:Str} (h:qcm s x=true):Gl X x∧(x==("__debug__":Str))=false∧x ≠ "__name__":=by
 unfold qcm at h
 simp only [Bool.and_eq_true,Bool.not_eq_true',decide_eq_true_eq,beq_iff_eq]at h
 exact⟨by unfold Gl Env.kindOf;rw[G.hsc];exact h.1.1,h.1.2,h.2⟩
theorem Gd.bl (G:Gd CX Φ s X E') {x:Str} (h:okB s x=true):Gl X x∧(x==("__debug__":Str))=false∧x ≠ "__name__"∧X.mg x=none:=by
 unfold okB at h
 rw[Bool.and_eq_true,List.any_eq_true]at h
 obtain ⟨h1,y,hy,e⟩:=h
 obtain ⟨a,b,c⟩:=G.gl h1
 have:y=x:=of_decide_eq_true e
 exact⟨a,b,c,this ▸ G.blt y hy⟩
theorem Gd.lc (G:Gd CX Φ s X E') {i:Nat} {x:Str} (h:qet s i x=true):X.N[i]? =some x∧Loc X.env.scope x∧(X.fn x=true∨X.env.scope.names.lookup x=some .local):=by
 unfold qet at h
 simp only [Bool.and_eq_true,decide_eq_true_eq,Bool.or_eq_true]at h
 refine⟨by rw[G.hN];exact h.1.1,by rw[G.hsc];exact qsa h.1.2,?_⟩
 rcases h.2 with z | z
 · exact .inl (by rw[G.hfn];exact z)
 · unfold lcl at z
   exact .inr (by rw[G.hsc];simpa using z)
noncomputable def qj6 (CX:CXT):Prop:=∀ outer H s e s',¬ CX outer H s E0 e s'
theorem Gd.inner (hc:qj6 CX) (G:Gd CX Φ s X E') {ts Mk:List Str} {scope:Scope} (ok:qe1 s.N s.sc ts Mk scope=true) (C:Addr) (fp:List Addr) (s₀:Shared) (H₀:Hp):Gd CX Φ (s.inner ts Mk scope) (cxC X ts Mk scope C fp s₀ H₀) E0 where
 hN:=rfl
 hsc:=by
   show (relabel scope X.env)=qir scope s.sc
   rw[← G.hsc]
   rfl
 hfn:=rfl
 calm:=G.calm
 room:=G.room
 own:=PassesOwn.never
 pass:=fun pins σ H s e s' _ h=>hc _ _ _ _ _ h
 nd:=(qdb (X:=X) G.hN G.hsc ok).nd
 blt:=G.blt
 md:=G.md
 fns:=G.fns
end
end T3
set_option maxHeartbeats 1000000
namespace T3
open PySem PySem.Spec PyProof.Rows L2
section
variable {Φ:List Fd} {fns:List (Str × Nat × Nat)}
mutual
theorem qd3:∀ (t:CG),nms t=true→qab (evG Φ fns t)
 | .nm i,_=>by rw[evG];exact qps i
 | .tg ts,h=>by
   rw[evG]
   rw[nms]at h
   intro d Γ S Γ' S' e
   unfold qrt at e
   cases e1:look d S <;> rw[e1]at e <;> first | (cases e;done) | skip
   · dsimp only at e
     split at e
     · exact qnd ts h _ _ _ _ _ e
     · cases e
   · dsimp only at e
     split at e
     · exact qnd ts h _ _ _ _ _ e
     · cases e
 | .sub _ _,h=>by simp [nms]at h
theorem qnd:∀ (t:CT),qu8 t=true→∀ ds Γ S Γ' S',evT Φ fns t ds Γ S=.ok Γ' S'→Γ'.length=Γ.length
 | .nil,_,ds,Γ,S,Γ',S',e=>by
   rw[evT]at e
   unfold qrs at e
   split at e
   · cases e;rfl
   · cases e
 | .cons a r,h,ds,Γ,S,Γ',S',e=>by
   rw[evT]at e
   rw[qu8,Bool.and_eq_true]at h
   unfold qjr at e
   split at e
   · rename_i d ds
     unfold M.bind at e
     cases e1:evG Φ fns a d Γ S with
     | no=>rw[e1]at e;cases e
     | err x S1=>rw[e1]at e;cases e
     | ok Γ1 S1 =>
       rw[e1]at e
       rw[qnd r h.2 _ _ _ _ _ e,qd3 a h.1 _ _ _ _ _ e1]
   · cases e
end
end
section
variable {CX:CXT} {Φ:List Fd} (hcx:qj6 CX)
theorem dec {p:Prop} [Decidable p] (h:decide p=true):p:=of_decide_eq_true h
theorem Gd.units {s:Sx} {X:Cx} {E':XK} (G:Gd CX Φ s X E'):X.A.units+64 < cLine:=G.room.units
theorem Gd.units1 {s:Sx} {X:Cx} {E':XK} (G:Gd CX Φ s X E'):X.A.units+1 < cLine:=Nat.lt_of_le_of_lt (by omega) G.room.units
theorem q3i {s:Sx} {X:Cx} {E':XK} (G:Gd CX Φ s X E') {E:XW} {e:Expr} {es:List Expr} {fs:Env→M (List D)} {p pos:Pos} {x:Str} (b:Bi) (hb:okB s x=true) (hx:x=b.name) (hst:(e::es).all notStar=true) (ha:PA X (e::es) (tL E fs)) :
   PE X (.Call (.Name x p) (e::es) [] pos) (tD E fun Γ=>M.bind (fs Γ) (biF b)):=by
 obtain ⟨g1,g2,g3,g4⟩:=G.bl hb
 rw[List.all_cons,Bool.and_eq_true]at hst
 have h1:=qr (es:=es) (env:=X.env) hst.1
 have h2:=qc4 (pos:=pos) (env:=X.env) hst.2
 subst hx
 cases b with
 | len=>exact qbv qy2 g1 g4 qmx ha g3 g2 h1 h2
 | sum=>exact qbv (qy4 G.calm) g1 g4 qx6 ha g3 g2 h1 h2
 | all=>exact qbv (qy5 G.calm) g1 g4 qx7 ha g3 g2 h1 h2
 | any=>exact qbv (qy6 G.calm) g1 g4 qx8 ha g3 g2 h1 h2
 | min=>exact qbv (qy7 G.calm) g1 g4 qx4 ha g3 g2 h1 h2
 | max=>exact qbv (qy8 G.calm) g1 g4 qx5 ha g3 g2 h1 h2
 | list new=>exact qc1 quf g1 g4 qgc ha g3 g2 h1 h2
 | keys new=>exact qc1 (qr3 G.calm) g1 g4 qgc ha g3 g2 h1 h2
 | sorted new=>exact qbv (qpx G.calm) g1 g4 qpd ha g3 g2 h1 h2
 | tuple=>exact qc1 qza g1 g4 qk3 ha g3 g2 h1 h2
 | int=>exact qc1 qzb g1 g4 qqz ha g3 g2 h1 h2
 | str=>exact qc1 qzd g1 g4 qq0 ha g3 g2 h1 h2
 | isi=>exact qbv qz5 g1 g4 qb8 ha g3 g2 h1 h2
theorem q3j {s:Sx} {X:Cx} {E':XK} (G:Gd CX Φ s X E') {E:XW} {o:Expr} {es:List Expr} {f:Env→M D} {fs:Env→M (List D)} {p q:Pos} {n:Str} (m:Mt) (hn:n=m.name) (hc:qhe o=true) (hl:(p.endLine==q.line)=true) (hst:es.all notStar=true) (hln:es.length < 30)
   (ho:PE X o (tD E f)) (ha:PA X es (tL E fs)) (h0:es=[]→fs=fun _=>M.pure []):PE X (.Call (.Attribute o n p) es [] q) (tD E (mtD (mtT m) f fs (mtF m))):=by
 subst hn
 cases es with
 | nil =>
   rw[h0 rfl]
   cases m with
   | append=>exact qhb PySem.F.plainAttrs_list PySem.F.slot_list_append PySem.F.type_list_append qhc qh7 ho (qas hc) hl
   | insert=>exact qhb PySem.F.plainAttrs_list PySem.F.slot_list_insert PySem.F.type_list_insert qhd qh7 ho (qas hc) hl
   | pop=>exact qhb PySem.F.plainAttrs_list PySem.F.slot_list_pop PySem.F.type_list_pop qod qh7 ho (qas hc) hl
   | clear=>exact qhb PySem.F.plainAttrs_list PySem.F.slot_list_clear PySem.F.type_list_clear qi3 qh7 ho (qas hc) hl
   | join=>exact qhb PySem.F.plainAttrs_str PySem.F.slot_str_join PySem.F.type_str_join qln qup ho (qas hc) hl
   | index=>exact qhb PySem.F.plainAttrs_list PySem.F.slot_list_index PySem.F.type_list_index qi4 qh7 ho (qas hc) hl
   | split=>exact qhb PySem.F.plainAttrs_str PySem.F.slot_str_split PySem.F.type_str_split qi9 qup ho (qas hc) hl
 | cons e es =>
   have hst':=hst
   rw[List.all_cons,Bool.and_eq_true]at hst'
   have h1:=qr (es:=es) (env:=X.env) hst'.1
   have h2:=qc4 (pos:=q) (env:=X.env) hst'.2
   have h3:=qzy (cpos:=q) (env:=X.env) hst hln
   cases m with
   | append=>exact qm5 PySem.F.plainAttrs_list PySem.F.slot_list_append PySem.F.type_list_append qhc qh7 ho ha (qas hc) h3 hl h1 h2
   | insert=>exact qm5 PySem.F.plainAttrs_list PySem.F.slot_list_insert PySem.F.type_list_insert qhd qh7 ho ha (qas hc) h3 hl h1 h2
   | pop=>exact qm5 PySem.F.plainAttrs_list PySem.F.slot_list_pop PySem.F.type_list_pop qod qh7 ho ha (qas hc) h3 hl h1 h2
   | clear=>exact qm5 PySem.F.plainAttrs_list PySem.F.slot_list_clear PySem.F.type_list_clear qi3 qh7 ho ha (qas hc) h3 hl h1 h2
   | join=>exact qm5 PySem.F.plainAttrs_str PySem.F.slot_str_join PySem.F.type_str_join qln qup ho ha (qas hc) h3 hl h1 h2
   | index=>exact qm5 PySem.F.plainAttrs_list PySem.F.slot_list_index PySem.F.type_list_index qi4 qh7 ho ha (qas hc) h3 hl h1 h2
   | split=>exact qm5 PySem.F.plainAttrs_str PySem.F.slot_str_split PySem.F.type_str_split qi9 qup ho ha (qas hc) h3 hl h1 h2
theorem qva {n:String} (h:tyn.contains n=true):bootBuiltins (n:Str)=some (.type n):=by
 have:n ∈ tyn:=by simpa using h
 simp only [tyn,List.mem_cons,List.not_mem_nil,or_false]at this
 rcases this with rfl | rfl | rfl | rfl | rfl | rfl
 · exact qtu
 · exact qqz
 · exact qq0
 · exact qgc
 · exact qk3
 · exact qtv
omit hcx in
theorem nb {p:Prop} (h:false=true):p:=nomatch h
omit hcx in
theorem an1 {a b:Bool} (h:(a && b)=true):a=true∧b=true:=Bool.and_eq_true_iff.mp h
omit hcx in
theorem an2 {a0 a1 a2:Bool} (h:(a0 && a1 && a2)=true):(a0=true∧a1=true)∧a2=true:=⟨an1 (an1 h).1,(an1 h).2⟩
omit hcx in
theorem an3 {a0 a1 a2 a3:Bool} (h:(a0 && a1 && a2 && a3)=true):((a0=true∧a1=true)∧a2=true)∧a3=true:=⟨an2 (an1 h).1,(an1 h).2⟩
omit hcx in
theorem an4 {a0 a1 a2 a3 a4:Bool} (h:(a0 && a1 && a2 && a3 && a4)=true):(((a0=true∧a1=true)∧a2=true)∧a3=true)∧a4=true:=⟨an3 (an1 h).1,(an1 h).2⟩
omit hcx in
theorem an5 {a0 a1 a2 a3 a4 a5:Bool} (h:(a0 && a1 && a2 && a3 && a4 && a5)=true):((((a0=true∧a1=true)∧a2=true)∧a3=true)∧a4=true)∧a5=true:=⟨an4 (an1 h).1,(an1 h).2⟩
omit hcx in
theorem an6 {a0 a1 a2 a3 a4 a5 a6:Bool} (h:(a0 && a1 && a2 && a3 && a4 && a5 && a6)=true):(((((a0=true∧a1=true)∧a2=true)∧a3=true)∧a4=true)∧a5=true)∧a6=true:=⟨an5 (an1 h).1,(an1 h).2⟩
omit hcx in
theorem an7 {a0 a1 a2 a3 a4 a5 a6 a7:Bool} (h:(a0 && a1 && a2 && a3 && a4 && a5 && a6 && a7)=true):((((((a0=true∧a1=true)∧a2=true)∧a3=true)∧a4=true)∧a5=true)∧a6=true)∧a7=true:=⟨an6 (an1 h).1,(an1 h).2⟩
omit hcx in
theorem an8 {a0 a1 a2 a3 a4 a5 a6 a7 a8:Bool} (h:(a0 && a1 && a2 && a3 && a4 && a5 && a6 && a7 && a8)=true):(((((((a0=true∧a1=true)∧a2=true)∧a3=true)∧a4=true)∧a5=true)∧a6=true)∧a7=true)∧a8=true:=⟨an7 (an1 h).1,(an1 h).2⟩
omit hcx in
theorem an9 {a0 a1 a2 a3 a4 a5 a6 a7 a8 a9:Bool} (h:(a0 && a1 && a2 && a3 && a4 && a5 && a6 && a7 && a8 && a9)=true):((((((((a0=true∧a1=true)∧a2=true)∧a3=true)∧a4=true)∧a5=true)∧a6=true)∧a7=true)∧a8=true)∧a9=true:=⟨an8 (an1 h).1,(an1 h).2⟩
omit hcx in
theorem q0a {a0 a1 a2 a3 a4 a5 a6 a7 a8 a9 a10:Bool} (h:(a0 && a1 && a2 && a3 && a4 && a5 && a6 && a7 && a8 && a9 && a10)=true):(((((((((a0=true∧a1=true)∧a2=true)∧a3=true)∧a4=true)∧a5=true)∧a6=true)∧a7=true)∧a8=true)∧a9=true)∧a10=true:=⟨an9 (an1 h).1,(an1 h).2⟩
omit hcx in
theorem q5b {a0 a1 a2 a3 a4 a5 a6 a7 a8 a9 a10 a11:Bool} (h:(a0 && a1 && a2 && a3 && a4 && a5 && a6 && a7 && a8 && a9 && a10 && a11)=true):((((((((((a0=true∧a1=true)∧a2=true)∧a3=true)∧a4=true)∧a5=true)∧a6=true)∧a7=true)∧a8=true)∧a9=true)∧a10=true)∧a11=true:=⟨q0a (an1 h).1,(an1 h).2⟩
omit hcx in
theorem q5c {a0 a1 a2 a3 a4 a5 a6 a7 a8 a9 a10 a11 a12:Bool} (h:(a0 && a1 && a2 && a3 && a4 && a5 && a6 && a7 && a8 && a9 && a10 && a11 && a12)=true):(((((((((((a0=true∧a1=true)∧a2=true)∧a3=true)∧a4=true)∧a5=true)∧a6=true)∧a7=true)∧a8=true)∧a9=true)∧a10=true)∧a11=true)∧a12=true:=⟨q5b (an1 h).1,(an1 h).2⟩
omit hcx in
theorem q5d {a0 a1 a2 a3 a4 a5 a6 a7 a8 a9 a10 a11 a12 a13:Bool} (h:(a0 && a1 && a2 && a3 && a4 && a5 && a6 && a7 && a8 && a9 && a10 && a11 && a12 && a13)=true):((((((((((((a0=true∧a1=true)∧a2=true)∧a3=true)∧a4=true)∧a5=true)∧a6=true)∧a7=true)∧a8=true)∧a9=true)∧a10=true)∧a11=true)∧a12=true)∧a13=true:=⟨q5c (an1 h).1,(an1 h).2⟩
omit hcx in
theorem q5e {a0 a1 a2 a3 a4 a5 a6 a7 a8 a9 a10 a11 a12 a13 a14:Bool} (h:(a0 && a1 && a2 && a3 && a4 && a5 && a6 && a7 && a8 && a9 && a10 && a11 && a12 && a13 && a14)=true):(((((((((((((a0=true∧a1=true)∧a2=true)∧a3=true)∧a4=true)∧a5=true)∧a6=true)∧a7=true)∧a8=true)∧a9=true)∧a10=true)∧a11=true)∧a12=true)∧a13=true)∧a14=true:=⟨q5d (an1 h).1,(an1 h).2⟩
omit hcx in
theorem q5f {a0 a1 a2 a3 a4 a5 a6 a7 a8 a9 a10 a11 a12 a13 a14 a15:Bool} (h:(a0 && a1 && a2 && a3 && a4 && a5 && a6 && a7 && a8 && a9 && a10 && a11 && a12 && a13 && a14 && a15)=true):((((((((((((((a0=true∧a1=true)∧a2=true)∧a3=true)∧a4=true)∧a5=true)∧a6=true)∧a7=true)∧a8=true)∧a9=true)∧a10=true)∧a11=true)∧a12=true)∧a13=true)∧a14=true)∧a15=true:=⟨q5e (an1 h).1,(an1 h).2⟩
omit hcx in
theorem q5g {a0 a1 a2 a3 a4 a5 a6 a7 a8 a9 a10 a11 a12 a13 a14 a15 a16:Bool} (h:(a0 && a1 && a2 && a3 && a4 && a5 && a6 && a7 && a8 && a9 && a10 && a11 && a12 && a13 && a14 && a15 && a16)=true):(((((((((((((((a0=true∧a1=true)∧a2=true)∧a3=true)∧a4=true)∧a5=true)∧a6=true)∧a7=true)∧a8=true)∧a9=true)∧a10=true)∧a11=true)∧a12=true)∧a13=true)∧a14=true)∧a15=true)∧a16=true:=⟨q5f (an1 h).1,(an1 h).2⟩
omit hcx in
theorem q5h {a0 a1 a2 a3 a4 a5 a6 a7 a8 a9 a10 a11 a12 a13 a14 a15 a16 a17:Bool} (h:(a0 && a1 && a2 && a3 && a4 && a5 && a6 && a7 && a8 && a9 && a10 && a11 && a12 && a13 && a14 && a15 && a16 && a17)=true):((((((((((((((((a0=true∧a1=true)∧a2=true)∧a3=true)∧a4=true)∧a5=true)∧a6=true)∧a7=true)∧a8=true)∧a9=true)∧a10=true)∧a11=true)∧a12=true)∧a13=true)∧a14=true)∧a15=true)∧a16=true)∧a17=true:=⟨q5g (an1 h).1,(an1 h).2⟩
omit hcx in
theorem emp {α:Type} {l:List α} (h:l.isEmpty=true):l=[]:=List.isEmpty_iff.mp h
omit hcx in
theorem q5i {α:Type} {o:Option α} (h:o.isNone=true):o=none:=Option.isNone_iff_eq_none.mp h
omit hcx in
theorem sA0 {s:Sx}:∀ (c:CL),qdl s c []=true→evA Φ s.fns c=fun _=>M.pure []
 | .nil,_=>by rw[evA]
 | .cons a r,h=>by exact nb h
include hcx
mutual
theorem sE:∀ (c:CE) {s:Sx} {X:Cx} {E':XK} {e:Expr},Gd CX Φ s X E'→qv s c e=true→PE X e (tD (xw E') (evE Φ s.fns c))
 | .var i,s,X,E',e,G,h=>by
   cases e <;> first | exact nb h | skip
   rw[evE];exact G.var h
 | .int i,s,X,E',e,G,h=>by
   cases e <;> first | exact nb h | skip
   rename_i k _ _
   cases k <;> first | exact nb h | skip
   cases dec h;rw[evE];exact qdd qgp fun _ _=>rfl
 | .str i,s,X,E',e,G,h=>by
   cases e <;> first | exact nb h | skip
   rename_i k _ _
   cases k <;> first | exact nb h | skip
   cases dec h;rw[evE];exact qdd qjd fun _ _=>rfl
 | .bl i,s,X,E',e,G,h=>by
   cases e <;> first | exact nb h | skip
   rename_i k _ _
   cases k <;> first | exact nb h | skip
   cases dec h;rw[evE];exact qdd q03 fun _ _=>rfl
 | .non,s,X,E',e,G,h=>by
   cases e <;> first | exact nb h | skip
   rename_i k _ _
   cases k <;> first | exact nb h | skip
   rw[evE];exact qdd qwt fun _ _=>rfl
 | .ty n,s,X,E',e,G,h=>by
   cases e <;> first | exact nb h | skip
   rename_i x p
   replace h:=an2 h
   obtain ⟨⟨hx,hb⟩,hn⟩:=h
   obtain ⟨g1,g2,g3,g4⟩:=G.bl hb
   cases dec hx
   rw[evE]
   exact qdd (qnq (v:=.ty n) g1 g4 (qva hn) rfl g3 g2) fun _ _=>rfl
 | .bin new op a b,s,X,E',e,G,h=>by
   cases e <;> first | exact nb h | skip
   replace h:=an2 h
   cases dec h.1.1
   rw[evE]
   exact q42 (qyl _) (sE a G h.1.2) (sE b G h.2)
 | .neg a,s,X,E',e,G,h=>by
   cases e <;> first | exact nb h | skip
   rename_i o _ _
   cases o <;> first | exact nb h | skip
   rw[evE];exact q2g (sE a G h)
 | .cmp op a b,s,X,E',e,G,h=>by
   cases e <;> first | exact nb h | skip
   rename_i x os ys _
   rcases os with _ | ⟨o,_ | ⟨_,_⟩⟩ <;> first | exact nb h | skip
   rcases ys with _ | ⟨y,_ | ⟨_,_⟩⟩ <;> first | exact nb h | skip
   replace h:=an3 h
   cases dec h.1.1.1
   rw[evE]
   exact q2f (qe6 G.units _) (sE a G h.1.2) (sE b G h.2) (qhg h.1.1.2)
 | .chain o p a b c,s,X,E',e,G,h=>by
   cases e <;> first | exact nb h | skip
   rename_i x os ys _
   rcases os with _ | ⟨o',_ | ⟨p',_ | ⟨_,_⟩⟩⟩ <;> first | exact nb h | skip
   rcases ys with _ | ⟨y,_ | ⟨z,_ | ⟨_,_⟩⟩⟩ <;> first | exact nb h | skip
   replace h:=an5 h
   cases dec h.1.1.1.1.1
   cases dec h.1.1.1.1.2
   rw[evE]
   exact qt8 (qe6 G.units _) (qe6 G.units _) (sE a G h.1.1.2) (sE b G h.1.2) (sE c G h.2) (qi5 h.1.1.1.2)
 | .and a b,s,X,E',e,G,h=>by
   cases e <;> first | exact nb h | skip
   rename_i o xs _
   cases o <;> first | exact nb h | skip
   rcases xs with _ | ⟨x,_ | ⟨y,r⟩⟩ <;> first | exact nb h | skip
   replace h:=an1 h
   rw[evE];exact q2l (sE a G h.1) (sE b G h.2)
 | .or a b,s,X,E',e,G,h=>by
   cases e <;> first | exact nb h | skip
   rename_i o xs _
   cases o <;> first | exact nb h | skip
   rcases xs with _ | ⟨x,_ | ⟨y,r⟩⟩ <;> first | exact nb h | skip
   replace h:=an1 h
   rw[evE];exact q43 (sE a G h.1) (sE b G h.2)
 | .one a,s,X,E',e,G,h=>by
   cases e <;> first | exact nb h | skip
   rename_i op xs p
   rcases xs with _ | ⟨x,_ | ⟨_,_⟩⟩ <;> first | exact nb h | skip
   rw[evE];exact q2k (sE a G h)
 | .not a,s,X,E',e,G,h=>by
   cases e <;> first | exact nb h | skip
   rename_i o _ _
   cases o <;> first | exact nb h | skip
   rw[evE];exact q2m (sE a G h)
 | .ife c a b,s,X,E',e,G,h=>by
   cases e <;> first | exact nb h | skip
   replace h:=an2 h
   rw[evE];exact q2n (sB c G h.1.1) (sE a G h.1.2) (sE b G h.2)
 | .tup as,s,X,E',e,G,h=>by
   cases e <;> first | exact nb h | skip
   rw[evE];exact q2p (sA as G h)
 | .lst new as,s,X,E',e,G,h=>by
   cases e <;> first | exact nb h | skip
   rw[evE];exact q2q (sA as G h)
 | .dnil new,s,X,E',e,G,h=>by
   cases e <;> first | exact nb h | skip
   rename_i ks vs _
   cases ks <;> first | exact nb h | skip
   cases vs <;> first | exact nb h | skip
   rw[evE];exact qyx
 | .ix a i,s,X,E',e,G,h=>by
   cases e <;> first | exact nb h | skip
   replace h:=an2 h
   rw[evE];exact q44 (q2s G.units1) (sE a G h.1.2) (sE i G h.2) (qlp h.1.1)
 | .sl new a lo hi,s,X,E',e,G,h=>by
   cases e <;> first | exact nb h | skip
   rename_i _ y _
   cases y <;> first | exact nb h | skip
   rename_i st _
   cases st <;> first | exact nb h | skip
   replace h:=an2 h
   rw[evE];exact q45 (sE a G h.1.1) (sO lo G h.1.2) (sO hi G h.2)
 | .call j as,s,X,E',e,G,h=>by
   cases e <;> first | exact nb h | skip
   rename_i fn es ks q
   cases fn <;> first | exact nb h | skip
   cases ks <;> first | exact nb h | skip
   rename_i x p
   replace h:=an3 h
   obtain ⟨⟨⟨hg,hf⟩,hst⟩,ha⟩:=h
   obtain ⟨g1,g2,g3⟩:=G.gl hg
   split at hf
   · rename_i y n k hj
     simp only [Bool.and_eq_true]at hf
     obtain ⟨⟨h1,h2⟩,h3⟩:=hf
     cases dec h1
     obtain ⟨F,hF,FT⟩:=G.fns j x n k hj
     rw[evE]
     have hA:=sA as G ha
     have e1:qa3 Φ s.fns j=qbl n F:=by funext ds;unfold qa3;rw[hF,hj]
     rw[e1]
     cases es with
     | nil =>
       have h2:n=0:=dec h2
       subst h2
       refine PE.mono (quo FT G.room (dec h3) g1 G.pass g2) fun σ H Q ⟨w,Γ,S,rel,hold,z⟩=>⟨w,Γ,S,rel,hold,?_⟩
       have:evA Φ s.fns as=fun _=>M.pure []:=sA0 as ha
       rw[this]at z
       exact z
     | cons e es =>
       have hst':=hst
       rw[List.all_cons,Bool.and_eq_true]at hst'
       exact qzu FT G.room (dec h3) g1 G.pass hA g2 (qr hst'.1) (qc4 hst'.2)
   · cases hf
 | .bi b as,s,X,E',e,G,h=>by
   cases e <;> first | exact nb h | skip
   rename_i fn es ks q
   cases fn <;> first | exact nb h | skip
   cases ks <;> first | exact nb h | skip
   rename_i x p
   replace h:=an4 h
   obtain ⟨⟨⟨⟨h1,h2⟩,h3⟩,h4⟩,h5⟩:=h
   rw[evE]
   cases es with
   | nil=>cases h3
   | cons e es=>exact q3i G b h1 (dec h2) h4 (sA as G h5)
 | .mt m o as,s,X,E',e,G,h=>by
   cases e <;> first | exact nb h | skip
   rename_i fn es ks q
   cases fn <;> first | exact nb h | skip
   cases ks <;> first | exact nb h | skip
   replace h:=an6 h
   obtain ⟨⟨⟨⟨⟨⟨h1,h2⟩,h3⟩,h4⟩,h5⟩,h6⟩,h7⟩:=h
   rw[evE]
   exact q3j G m (dec h1) h2 h3 h4 (dec h5) (sE o G h6) (sA as G h7) fun z=>by subst z;exact sA0 as h7
 | .lc new n t i c el,s,X,E',e,G,h=>by
   cases e <;> first | exact nb h | skip
   rename_i x gs scope p
   rcases gs with _ | ⟨g,_ | ⟨_,_⟩⟩ <;> first | exact nb h | skip
   replace h:=an9 h
   obtain ⟨⟨⟨⟨⟨⟨⟨⟨⟨h1,h2⟩,h3⟩,h4⟩,h5⟩,h6⟩,h7⟩,h8⟩,h9⟩,h10⟩:=h
   obtain ⟨tg,it,ifs,asy⟩:=g
   dsimp only at h1 h2 h3 h4 h5 h8 h9 h10
   cases dec h1
   have hn:=dec h10
   subst hn
   rw[evE]
   generalize qff s.N tg=Mk at *
   generalize qac tg=ts at *
   exact q47 (E2:=xw E0) (qdb G.hN G.hsc h2) G.calm (sI i G h4) (fun C fp s₀ H₀=>sG (s:=s.inner ts Mk scope) t (G.inner hcx h2 C fp s₀ H₀) h5) (fun C fp s₀ H₀=>sF (s:=s.inner ts Mk scope) c (G.inner hcx h2 C fp s₀ H₀) h8) (fun C fp s₀ H₀=>sE (s:=s.inner ts Mk scope) el (G.inner hcx h2 C fp s₀ H₀) h9) (qbe h3)
     (fun k hk=>dec (List.all_eq_true.mp h6 k hk)) (qd3 t h7)
 | .dc new n t i c k el,s,X,E',e,G,h=>by
   cases e <;> first | exact nb h | skip
   rename_i y x gs scope p
   rcases gs with _ | ⟨g,_ | ⟨_,_⟩⟩ <;> first | exact nb h | skip
   replace h:=q0a h
   obtain ⟨⟨⟨⟨⟨⟨⟨⟨⟨⟨h1,h2⟩,h3⟩,h4⟩,h5⟩,h6⟩,h7⟩,h8⟩,h9⟩,h9'⟩,h10⟩:=h
   obtain ⟨tg,it,ifs,asy⟩:=g
   dsimp only at h1 h2 h3 h4 h5 h8 h9 h9' h10
   cases dec h1
   have hn:=dec h10
   subst hn
   rw[evE]
   generalize qff s.N tg=Mk at *
   generalize qac tg=ts at *
   exact q5a (E2:=xw E0) (qdb G.hN G.hsc h2) G.calm (sI i G h4) (fun C fp s₀ H₀=>sG (s:=s.inner ts Mk scope) t (G.inner hcx h2 C fp s₀ H₀) h5) (fun C fp s₀ H₀=>sF (s:=s.inner ts Mk scope) c (G.inner hcx h2 C fp s₀ H₀) h8) (fun C fp s₀ H₀=>sE (s:=s.inner ts Mk scope) k (G.inner hcx h2 C fp s₀ H₀) h9) (fun C fp s₀ H₀=>sE (s:=s.inner ts Mk scope) el (G.inner hcx h2 C fp s₀ H₀) h9') (qbe h3)
     (fun k hk=>dec (List.all_eq_true.mp h6 k hk)) (qd3 t h7)
 | .frz a,s,X,E',e,G,h=>by
   rw[evE];exact q3a (sE a G h)
 | .con x k,s,X,E',e,G,h=>by
   cases e <;> first | exact nb h | skip
   replace h:=an2 h
   obtain ⟨⟨h1,h2⟩,h3⟩:=h
   cases dec h1
   obtain ⟨g1,g2,_⟩:=G.gl h2
   obtain ⟨q,hq,e1⟩:=List.any_eq_true.mp h3
   cases dec e1
   obtain ⟨t,ht⟩:=G.md.gs _ hq
   rw[evE];exact q3e g1 ht g2
 | .itm x tab a,s,X,E',e,G,h=>by
   cases e <;> first | exact nb h | skip
   rename_i z i q
   cases z <;> first | exact nb h | skip
   replace h:=an4 h
   obtain ⟨⟨⟨⟨h1,h2⟩,h3⟩,h4⟩,h5⟩:=h
   cases dec h1
   obtain ⟨g1,g2,_⟩:=G.gl h2
   obtain ⟨q,hq,e1⟩:=List.any_eq_true.mp h3
   cases dec e1
   obtain ⟨c,hm,T⟩:=G.md.ds _ hq
   rw[evE];exact q3f g1 hm T (sE a G h5) (fun o i=>qlp h4 o i) g2
 | .lenK kt as,s,X,E',e,G,h=>by
   cases e <;> first | exact nb h | skip
   rename_i fn es ks q
   cases fn <;> first | exact nb h | skip
   cases ks <;> first | exact nb h | skip
   rename_i x p
   replace h:=an5 h
   obtain ⟨⟨⟨⟨⟨h1,h2⟩,h3⟩,h4⟩,h5⟩,h6⟩:=h
   cases dec h5
   cases dec h2
   obtain ⟨g1,g2,g3,g4⟩:=G.bl h1
   rw[evE]
   cases es with
   | nil=>cases h3
   | cons e es =>
     rw[List.all_cons,Bool.and_eq_true]at h4
     exact qbv (qu3 G.md.kt) g1 g4 qmx (sA as G h6) g3 g2 (qr h4.1) (qc4 h4.2)
 | .lset a,s,X,E',e,G,h=>by
   cases e <;> first | exact nb h | skip
   rename_i fn es ks q
   cases fn <;> first | exact nb h | skip
   rcases es with _ | ⟨e,_ | ⟨_,_⟩⟩ <;> first | exact nb h | skip
   cases ks <;> first | exact nb h | skip
   cases e <;> first | exact nb h | skip
   rename_i fn2 es2 ks2 q2
   cases fn2 <;> first | exact nb h | skip
   rcases es2 with _ | ⟨z,_ | ⟨_,_⟩⟩ <;> first | exact nb h | skip
   cases ks2 <;> first | exact nb h | skip
   replace h:=an5 h
   obtain ⟨⟨⟨⟨⟨h1,h2⟩,h3⟩,h4⟩,h5⟩,h6⟩:=h
   cases dec h1
   cases dec h2
   obtain ⟨g1,_,_,g4⟩:=G.bl h3
   obtain ⟨k1,_,_,k4⟩:=G.bl h4
   rw[evE]
   exact qr6 G.calm g1 g4 k1 k4 (sE a G h6) (qr h5)
 | .lc2 n n2 t i t2 i2 c el,s,X,E',e,G,h=>by
   cases e <;> first | exact nb h | skip
   rename_i x gs scope p
   rcases gs with _ | ⟨g,_ | ⟨g2,_ | ⟨_,_⟩⟩⟩ <;> first | exact nb h | skip
   replace h:=q5h h
   obtain ⟨⟨⟨⟨⟨⟨⟨⟨⟨⟨⟨⟨⟨⟨⟨⟨⟨h1,h2⟩,h3⟩,h4⟩,h5⟩,h6⟩,h7⟩,h8⟩,h9⟩,h10⟩,h11⟩,h12⟩,h13⟩,h14⟩,h15⟩,h16⟩,h17⟩,h18⟩:=h
   obtain ⟨tg,it,ifs,asy⟩:=g
   obtain ⟨tg2,it2,ifs2,asy2⟩:=g2
   dsimp only at h1 h2 h3 h4 h5 h6 h7 h8 h11 h12 h15 h16 h17
   cases dec h1
   cases dec h2
   have h3:=emp h3
   subst h3
   have hn:=dec h17
   subst hn
   rw[evE]
   generalize mkN s.N (qac tg2++qac tg)=Mk at *
   generalize qac tg2++qac tg=ts at *
   exact q28 (E2:=xw E0) (dec h18) (qdb G.hN G.hsc h4) G.calm (sI i G h7) (fun C fp s₀ H₀=>sG (s:=s.inner ts Mk scope) t (G.inner hcx h4 C fp s₀ H₀) h8) (fun C fp s₀ H₀=>sI (s:=s.inner ts Mk scope) i2 (G.inner hcx h4 C fp s₀ H₀) h11) (fun C fp s₀ H₀=>sG (s:=s.inner ts Mk scope) t2 (G.inner hcx h4 C fp s₀ H₀) h12) (fun C fp s₀ H₀=>sF (s:=s.inner ts Mk scope) c (G.inner hcx h4 C fp s₀ H₀) h15) (fun C fp s₀ H₀=>sE (s:=s.inner ts Mk scope) el (G.inner hcx h4 C fp s₀ H₀) h16) (qbe h5) (fun env=>qbe h6)
     (fun k hk=>dec (List.all_eq_true.mp h9 k hk)) (qd3 t h10) (fun k hk=>dec (List.all_eq_true.mp h13 k hk)) (qd3 t2 h14)
theorem sB:∀ (c:CB) {s:Sx} {X:Cx} {E':XK} {e:Expr},Gd CX Φ s X E'→qfg s c e=true→PT X e (tB (xw E') (evB Φ s.fns c))
 | .cmp op a b,s,X,E',e,G,h=>by
   cases e <;> first | exact nb h | skip
   rename_i x os ys _
   rcases os with _ | ⟨o,_ | ⟨_,_⟩⟩ <;> first | exact nb h | skip
   rcases ys with _ | ⟨y,_ | ⟨_,_⟩⟩ <;> first | exact nb h | skip
   replace h:=an3 h
   cases dec h.1.1.1
   rw[evB]
   exact qyr (qe6 G.units _) (sE a G h.1.2) (sE b G h.2) (qhg h.1.1.2)
 | .chain o p a b c,s,X,E',e,G,h=>by
   cases e <;> first | exact nb h | skip
   rename_i x os ys _
   rcases os with _ | ⟨o',_ | ⟨p',_ | ⟨_,_⟩⟩⟩ <;> first | exact nb h | skip
   rcases ys with _ | ⟨y,_ | ⟨z,_ | ⟨_,_⟩⟩⟩ <;> first | exact nb h | skip
   replace h:=an5 h
   cases dec h.1.1.1.1.1
   cases dec h.1.1.1.1.2
   rw[evB]
   exact qrk (qe6 G.units _) (qe6 G.units _) (sE a G h.1.1.2) (sE b G h.1.2) (sE c G h.2) (qi5 h.1.1.1.2)
 | .and a b,s,X,E',e,G,h=>by
   cases e <;> first | exact nb h | skip
   rename_i o xs _
   cases o <;> first | exact nb h | skip
   rcases xs with _ | ⟨x,_ | ⟨y,r⟩⟩ <;> first | exact nb h | skip
   replace h:=an1 h
   rw[evB];exact(qrm (sB a G h.1) (sW b G h.2)).pt
 | .or a b,s,X,E',e,G,h=>by
   cases e <;> first | exact nb h | skip
   rename_i o xs _
   cases o <;> first | exact nb h | skip
   rcases xs with _ | ⟨x,_ | ⟨y,r⟩⟩ <;> first | exact nb h | skip
   replace h:=an1 h
   rw[evB];exact(qwh (sB a G h.1) (sW b G h.2)).pt
 | .one a,s,X,E',e,G,h=>by
   cases e <;> first | exact nb h | skip
   rename_i op xs p
   rcases xs with _ | ⟨x,_ | ⟨_,_⟩⟩ <;> first | exact nb h | skip
   rw[evB]
   cases op with
   | And=>exact(qrl (sB a G h)).pt
   | Or=>exact(qwg (sB a G h)).pt
 | .not a,s,X,E',e,G,h=>by
   cases e <;> first | exact nb h | skip
   rename_i o _ _
   cases o <;> first | exact nb h | skip
   rw[evB];exact qyu (sB a G h)
 | .tru a,s,X,E',e,G,h=>by
   replace h:=an1 h
   rw[evB];exact q2h (sE a G h.2) (quq h.1)
 | .nin x tab a,s,X,E',e,G,h=>by
   cases e <;> first | exact nb h | skip
   rename_i i os ys _
   rcases os with _ | ⟨o,_ | ⟨_,_⟩⟩ <;> first | exact nb h | skip
   rcases ys with _ | ⟨z,_ | ⟨_,_⟩⟩ <;> first | exact nb h | skip
   cases z <;> first | exact nb h | skip
   replace h:=an4 h
   obtain ⟨⟨⟨⟨h0,h1⟩,h2⟩,h3⟩,h5⟩:=h
   cases dec h0
   cases dec h1
   obtain ⟨g1,g2,_⟩:=G.gl h2
   obtain ⟨q,hq,e1⟩:=List.any_eq_true.mp h3
   cases dec e1
   obtain ⟨c,hm,T⟩:=G.md.ds _ hq
   rw[evB];exact q3g g1 hm T (sE a G h5) g2
theorem sW:∀ (c:CB) {s:Sx} {X:Cx} {E':XK} {op:BoolOp} {es:List Expr} {p:Pos},Gd CX Φ s X E'→qfg s c (.BoolOp op es p)=true→PW X (.BoolOp op es p) (tB (xw E') (evB Φ s.fns c))
 | .cmp _ a b,s,X,E',op,es,p,G,h=>by exact nb h
 | .chain _ _ a b c,s,X,E',op,es,p,G,h=>by exact nb h
 | .and a b,s,X,E',op,es,p,G,h=>by
   cases op <;> first | exact nb h | skip
   rcases es with _ | ⟨x,_ | ⟨y,r⟩⟩ <;> first | exact nb h | skip
   replace h:=an1 h
   rw[evB];exact qrm (sB a G h.1) (sW b G h.2)
 | .or a b,s,X,E',op,es,p,G,h=>by
   cases op <;> first | exact nb h | skip
   rcases es with _ | ⟨x,_ | ⟨y,r⟩⟩ <;> first | exact nb h | skip
   replace h:=an1 h
   rw[evB];exact qwh (sB a G h.1) (sW b G h.2)
 | .one a,s,X,E',op,es,p,G,h=>by
   rcases es with _ | ⟨x,_ | ⟨_,_⟩⟩ <;> first | exact nb h | skip
   rw[evB]
   cases op with
   | And=>exact qrl (sB a G h)
   | Or=>exact qwg (sB a G h)
 | .not a,s,X,E',op,es,p,G,h=>by exact nb h
 | .tru a,s,X,E',op,es,p,G,h=>by
   replace h:=an1 h
   cases h.1
 | .nin _ _ a,s,X,E',op,es,p,G,h=>by exact nb h
theorem sF:∀ (c:CF) {s:Sx} {X:Cx} {E':XK} {es:List Expr},Gd CX Φ s X E'→qu9 s c es=true→PF X es (tB (xw E') (evF Φ s.fns c))
 | .yes,s,X,E',es,G,h=>by
   have:es=[]:=emp h
   subst this
   rw[evF];exact qwj
 | .if_ a,s,X,E',es,G,h=>by
   rcases es with _ | ⟨x,_ | ⟨_,_⟩⟩ <;> first | exact nb h | skip
   rw[evF];exact q26 (sB a G h)
theorem sA:∀ (c:CL) {s:Sx} {X:Cx} {E':XK} {es:List Expr},Gd CX Φ s X E'→qdl s c es=true→PA X es (tL (xw E') (evA Φ s.fns c))
 | .nil,s,X,E',es,G,h=>by
   have:es=[]:=emp h
   subst this
   rw[evA];exact q2o
 | .cons a r,s,X,E',es,G,h=>by
   rcases es with _ | ⟨x,xs⟩ <;> first | exact nb h | skip
   replace h:=an2 h
   rw[evA];exact qyw (sE a G h.1.2) (sA r G h.2) (qr h.1.1)
theorem sO:∀ (c:CO) {s:Sx} {X:Cx} {E':XK} {o:Option Expr},Gd CX Φ s X E'→qz8 s c o=true→PO X o (tO (xw E') (evO Φ s.fns c))
 | .no,s,X,E',o,G,h=>by
   have:o=none:=q5i h
   subst this
   rw[evO];exact qud
 | .at_ a,s,X,E',o,G,h=>by
   cases o <;> first | exact nb h | skip
   rw[evO];exact que (sE a G h)
theorem sI:∀ (c:CI) {s:Sx} {X:Cx} {E':XK} {t e:Expr},Gd CX Φ s X E'→qp3 s c t e=true→PI X t e (tI (xw E') (evI Φ s.fns c))
 | .seq a,s,X,E',t,e,G,h=>by
   rw[evI];exact q22 (sE a G h)
 | .keys a,s,X,E',t,e,G,h=>by
   rw[evI];exact qz1 (sE a G h)
 | .rng1 as,s,X,E',t,e,G,h=>by
   cases e <;> first | exact nb h | skip
   rename_i fn es ks q
   cases fn <;> first | exact nb h | skip
   rcases es with _ | ⟨y,_ | ⟨_,_⟩⟩ <;> first | exact nb h | skip
   cases ks <;> first | exact nb h | skip
   replace h:=an3 h
   obtain ⟨⟨⟨h1,h2⟩,h3⟩,h4⟩:=h
   obtain ⟨g1,g2,g3,g4⟩:=G.bl h2
   cases dec h1
   rw[evI];exact qzn g1 g4 (sA as G h4) (qr h3)
 | .rng2 as,s,X,E',t,e,G,h=>by
   cases e <;> first | exact nb h | skip
   rename_i fn es ks q
   cases fn <;> first | exact nb h | skip
   rcases es with _ | ⟨y,_ | ⟨z,_ | ⟨_,_⟩⟩⟩ <;> first | exact nb h | skip
   cases ks <;> first | exact nb h | skip
   replace h:=an4 h
   obtain ⟨⟨⟨⟨h1,h2⟩,h3⟩,h3'⟩,h4⟩:=h
   obtain ⟨g1,g2,g3,g4⟩:=G.bl h2
   cases dec h1
   rw[evI];exact qzo g1 g4 (sA as G h4) (by rw[qr h3,qr h3'];rfl) (qr h3')
 | .enum as,s,X,E',t,e,G,h=>by
   cases e <;> first | exact nb h | skip
   rename_i fn es ks q
   cases fn <;> first | exact nb h | skip
   rcases es with _ | ⟨y,_ | ⟨_,_⟩⟩ <;> first | exact nb h | skip
   cases ks <;> first | exact nb h | skip
   replace h:=an4 h
   obtain ⟨⟨⟨⟨h0,h1⟩,h2⟩,h3⟩,h4⟩:=h
   obtain ⟨g1,g2,g3,g4⟩:=G.bl h2
   cases dec h1
   rw[evI]
   cases t <;> first | (cases h0;done) | exact qzp g1 g4 (sA as G h4) (qr h3)
 | .zip as,s,X,E',t,e,G,h=>by
   cases e <;> first | exact nb h | skip
   rename_i fn es ks q
   cases fn <;> first | exact nb h | skip
   rcases es with _ | ⟨y,_ | ⟨z,_ | ⟨_,_⟩⟩⟩ <;> first | exact nb h | skip
   cases ks <;> first | exact nb h | skip
   replace h:=an5 h
   obtain ⟨⟨⟨⟨⟨h0,h1⟩,h2⟩,h3⟩,h3'⟩,h4⟩:=h
   obtain ⟨g1,g2,g3,g4⟩:=G.bl h2
   cases dec h1
   rw[evI]
   cases t <;> first | (cases h0;done) | exact q23 g1 g4 (sA as G h4) (by rw[qr h3,qr h3'];rfl) (qr h3')
 | .chars a,s,X,E',t,e,G,h=>by
   rw[evI];exact qu4 (sE a G h)
 | .zipK kt as,s,X,E',t,e,G,h=>by
   cases e <;> first | exact nb h | skip
   rename_i fn es ks q
   cases fn <;> first | exact nb h | skip
   rcases es with _ | ⟨y,_ | ⟨z,_ | ⟨_,_⟩⟩⟩ <;> first | exact nb h | skip
   cases ks <;> first | exact nb h | skip
   replace h:=an6 h
   obtain ⟨⟨⟨⟨⟨⟨h0,h1⟩,h2⟩,h3⟩,h3'⟩,hk⟩,h4⟩:=h
   obtain ⟨g1,g2,g3,g4⟩:=G.bl h2
   cases dec h1
   cases dec hk
   rw[evI]
   cases t <;> first | (cases h0;done) | exact qz3 G.md.kt g1 g4 (sA as G h4) (by rw[qr h3,qr h3'];rfl) (qr h3')
theorem sG:∀ (c:CG) {s:Sx} {X:Cx} {E':XK} {e:Expr},Gd CX Φ s X E'→qlv s c e=true→PG X e (tG (xw E') (tgs c) (evG Φ s.fns c))
 | .nm i,s,X,E',e,G,h=>by
   cases e <;> first | exact nb h | skip
   obtain ⟨a,b,c⟩:=G.lc h
   rw[evG,tgs];exact qzj (by rw[G.hN];exact G.nd) a b c
 | .tg ts,s,X,E',e,G,h=>by
   cases e <;> first | exact nb h | skip
   replace h:=an2 h
   rw[evG,tgs];exact q2w G.calm (sT ts G h.2) (by rw[qi6];exact dec h.1.2) (qlq h.1.1)
 | .sub o i,s,X,E',e,G,h=>by
   cases e <;> first | exact nb h | skip
   replace h:=an2 h
   rw[evG,tgs];exact q20 G.units1 (sE o G h.1.2) (sE i G h.2) (qur h.1.1)
theorem sT:∀ (c:CT) {s:Sx} {X:Cx} {E':XK} {es:List Expr},Gd CX Φ s X E'→qz9 s c es=true→PGs X es (tGs (xw E') (qr9 c) (evT Φ s.fns c))
 | .nil,s,X,E',es,G,h=>by
   have:es=[]:=emp h
   subst this
   rw[evT,qr9];exact q2v
 | .cons a r,s,X,E',es,G,h=>by
   rcases es with _ | ⟨x,xs⟩ <;> first | exact nb h | skip
   replace h:=an2 h
   rw[evT,qr9];exact qzk (sG a G h.1.2) (sT r G h.2) (by rw[qfb h.1.1];rfl)
end
end
noncomputable def q3k:CE→Bool
 | .lc _ _ _ _ _ _=>true
 | _=>false
noncomputable def qwk:CE→Bool
 | .dc _ _ _ _ _ _ _=>true
 | _=>false
noncomputable def q3l (s:Sx) (e:CE) (v:Expr) (x:Str) (p:Pos):Bool:=match v with
 | .ListComp _ _ scope q=>q3k e || !swB s.sc scope q.line p.line x
 | .DictComp _ _ _ scope q=>qwk e || !swB s.sc scope q.line p.line x
 | _=>qdf v
mutual
noncomputable def q0b (s:Sx):CS→Stmt→Bool
 | .pass,st=>match st with
   | .Pass _=>true
   | _=>false
 | .ex a,st=>match st with
   | .Expr e _=>qdf e && qv s a e
   | _=>false
 | .ret a,st=>match st with
   | .Return (some e) _=>qv s a e
   | _=>false
 | .retN,st=>match st with
   | .Return none _=>true
   | _=>false
 | .sif c a b,st=>match st with
   | .If z x y _=>qfg s c z && qfh s a x && qfh s b y
   | _=>false
 | .asg t e,st=>match st with
   | .Assign [g] v _=>notStar g && qdf v && (qjx g || qjx v) && qlv s t g && qv s e v
   | _=>false
 | .set i e,st=>match st with
   | .Assign [.Name x p] v _=>qet s i x && q3l s e v x p && qv s e v
   | _=>false
 | .par i j as,st=>match st with
   | .Assign [.Tuple [.Name x px,.Name y py] _ _] (.Tuple [a,b] _ _) _=>decide (s.N[i]? =some x) && decide (s.N[j]? =some y) && decide (i ≠ j) && qus s.sc x y px py a b && qdl s as [a,b]
   | _=>false
 | .aug op i e,st=>match st with
   | .AugAssign (.Name x _) o v _=>decide (op=o) && qet s i x && qv s e v
   | _=>false
 | .augIx op o i e,st=>match st with
   | .AugAssign (.Subscript x y _) q v _=>decide (op=q) && qb2 y && qv s o x && qv s i y && qv s e v
   | _=>false
 | .sfor t i b,st=>match st with
   | .For g it x [] _=>qbq it && qp3 s i g it && qlv s t g && qfh s b x
   | _=>false
 | .swhile c b,st=>match st with
   | .While z x [] _=>qfg s c z && qfh s b x
   | _=>false
 | .brk,st=>match st with
   | .Break _=>true
   | _=>false
 | .cont,st=>match st with
   | .Continue _=>true
   | _=>false
 | .rse,st=>match st with
   | .Raise _ _ _=>true
   | _=>false
noncomputable def qfh (s:Sx):CSL→List Stmt→Bool
 | .nil,ss=>ss.isEmpty
 | .cons a r,ss=>match ss with
   | x::xs=>q0b s a x && qfh s r xs
   | []=>false
 | .gh _ r,ss=>qfh s r ss
end
section
variable {CX:CXT} {Φ:List Fd} (hcx:qj6 CX)
include hcx
theorem q0c {s:Sx} {X:Cx} {E':XK} {i:Nat} {e:CE} {x:Str} {p q:Pos} {v:Expr} (G:Gd CX Φ s X E') (h1:qet s i x=true) (h2:q3l s e v x p=true) (h3:qv s e v=true):PS X (.Assign [.Name x p] v q) (tS (xw E') fun Γ=>M.bind (evE Φ s.fns e Γ) fun d=>M.pure (.nx,Γ.set i (some d))):=by
 obtain ⟨a,b,c⟩:=G.lc h1
 have nd:X.N.Nodup:=by rw[G.hN];exact G.nd
 have other:qdf v=true→PS X (.Assign [.Name x p] v q) (tS (xw E') fun Γ=>M.bind (evE Φ s.fns e Γ) fun d=>M.pure (.nx,Γ.set i (some d))):=fun h2=>qru nd a b (sE hcx e G h3) (qc5 h2) c
 cases v <;> first | exact other h2 | skip
 case ListComp el gens scope pos =>
   replace h2:=Bool.or_eq_true_iff.mp h2
   by_cases hw:swB s.sc scope pos.line p.line x=true
   · have hl:q3k e=true:=by
       rcases h2 with z | z
       · exact z
       · rw[hw]at z;cases z
     cases e <;> first | (cases hl;done) | skip
     rename_i new n t i' cf ce
     rcases gens with _ | ⟨g,_ | ⟨_,_⟩⟩ <;> first | exact nb h3 | skip
     · replace h3:=an9 h3
       obtain ⟨⟨⟨⟨⟨⟨⟨⟨⟨k1,k2⟩,k3⟩,k4⟩,k5⟩,k6⟩,k7⟩,k8⟩,k9⟩,k10⟩:=h3
       obtain ⟨tg,it,ifs,asy⟩:=g
       dsimp only at k1 k2 k3 k4 k5 k8 k9 k10
       cases dec k1
       have hn:=dec k10
       subst hn
       rw[evE]
       generalize qff s.N tg=Mk at *
       generalize qac tg=ts at *
       exact qun (E2:=xw E0) nd a b (qdb G.hN G.hsc k2) G.calm (sI hcx i' G k4) (fun C fp s₀ H₀=>sG (s:=s.inner ts Mk scope) hcx t (G.inner hcx k2 C fp s₀ H₀) k5) (fun C fp s₀ H₀=>sF (s:=s.inner ts Mk scope) hcx cf (G.inner hcx k2 C fp s₀ H₀) k8)
         (fun C fp s₀ H₀=>sE (s:=s.inner ts Mk scope) hcx ce (G.inner hcx k2 C fp s₀ H₀) k9) (qbe k3) (by rw[qr1,G.hsc,hw]) c (fun k hk=>dec (List.all_eq_true.mp k6 k hk)) (qd3 t k7)
   · exact qru nd a b (sE hcx e G h3) (by rw[qr1,G.hsc];simp only [Bool.not_eq_true]at hw;rw[hw]) c
 case DictComp kx el gens scope pos =>
   replace h2:=Bool.or_eq_true_iff.mp h2
   by_cases hw:swB s.sc scope pos.line p.line x=true
   · have hl:qwk e=true:=by
       rcases h2 with z | z
       · exact z
       · rw[hw]at z;cases z
     cases e <;> first | (cases hl;done) | skip
     rename_i new n t i' cf ck ce
     rcases gens with _ | ⟨g,_ | ⟨_,_⟩⟩ <;> first | exact nb h3 | skip
     · replace h3:=q0a h3
       obtain ⟨⟨⟨⟨⟨⟨⟨⟨⟨⟨k1,k2⟩,k3⟩,k4⟩,k5⟩,k6⟩,k7⟩,k8⟩,k9⟩,k9'⟩,k10⟩:=h3
       obtain ⟨tg,it,ifs,asy⟩:=g
       dsimp only at k1 k2 k3 k4 k5 k8 k9 k9' k10
       cases dec k1
       have hn:=dec k10
       subst hn
       rw[evE]
       generalize qff s.N tg=Mk at *
       generalize qac tg=ts at *
       exact quw (E2:=xw E0) nd a b (qdb G.hN G.hsc k2) G.calm (sI hcx i' G k4) (fun C fp s₀ H₀=>sG (s:=s.inner ts Mk scope) hcx t (G.inner hcx k2 C fp s₀ H₀) k5) (fun C fp s₀ H₀=>sF (s:=s.inner ts Mk scope) hcx cf (G.inner hcx k2 C fp s₀ H₀) k8)
         (fun C fp s₀ H₀=>sE (s:=s.inner ts Mk scope) hcx ck (G.inner hcx k2 C fp s₀ H₀) k9) (fun C fp s₀ H₀=>sE (s:=s.inner ts Mk scope) hcx ce (G.inner hcx k2 C fp s₀ H₀) k9') (qbe k3) (by rw[qog,G.hsc,hw]) c (fun k hk=>dec (List.all_eq_true.mp k6 k hk)) (qd3 t k7)
   · exact qru nd a b (sE hcx e G h3) (by rw[qog,G.hsc];simp only [Bool.not_eq_true]at hw;rw[hw]) c
mutual
theorem sS:∀ (c:CS) {s:Sx} {X:Cx} {E':XK} {st:Stmt},Gd CX Φ s X E'→q0b s c st=true→PS X st (tS (xw E') (evS Φ s.fns c))
 | .pass,s,X,E',st,G,h=>by
   cases st <;> first | exact nb h | skip
   rw[evS];exact qze
 | .ex a,s,X,E',st,G,h=>by
   cases st <;> first | exact nb h | skip
   replace h:=an1 h
   rw[evS];exact qzg (sE hcx a G h.2) (qc5 h.1)
 | .ret a,s,X,E',st,G,h=>by
   cases st <;> first | exact nb h | skip
   rename_i o _
   cases o <;> first | exact nb h | skip
   rw[evS];exact q2u (sE hcx a G h)
 | .retN,s,X,E',st,G,h=>by
   cases st <;> first | exact nb h | skip
   rename_i o _
   cases o <;> first | exact nb h | skip
   rw[evS];exact qzh
 | .sif c a b,s,X,E',st,G,h=>by
   cases st <;> first | exact nb h | skip
   replace h:=an2 h
   rw[evS];exact q46 (sB hcx c G h.1.1) (sL a G h.1.2) (sL b G h.2)
 | .asg t e,s,X,E',st,G,h=>by
   cases st <;> first | exact nb h | skip
   rename_i gs v _
   rcases gs with _ | ⟨g,_ | ⟨_,_⟩⟩ <;> first | exact nb h | skip
   replace h:=an4 h
   obtain ⟨⟨⟨⟨h1,h2⟩,h3⟩,h4⟩,h5⟩:=h
   rw[evS];exact q2x (sE hcx e G h5) (sG hcx t G h4) (qof h2) (qpv h3) (by rw[qfb h1];rfl)
 | .set i e,s,X,E',st,G,h=>by
   cases st <;> first | exact nb h | skip
   rename_i gs v _
   rcases gs with _ | ⟨g,tl⟩ <;> first | exact nb h | skip
   cases g <;> first | exact nb h | skip
   cases tl <;> first | exact nb h | skip
   replace h:=an2 h
   rw[evS];exact q0c hcx G h.1.1 h.1.2 h.2
 | .par i j as,s,X,E',st,G,h=>by
   cases st <;> first | exact nb h | skip
   rename_i gs v _
   rcases gs with _ | ⟨g,tl⟩ <;> first | exact nb h | skip
   cases g <;> first | exact nb h | skip
   rename_i ts _ _
   rcases ts with _ | ⟨g1,ts⟩ <;> first | exact nb h | skip
   cases g1 <;> first | exact nb h | skip
   rcases ts with _ | ⟨g2,ts⟩ <;> first | exact nb h | skip
   cases g2 <;> first | exact nb h | skip
   cases ts <;> first | exact nb h | skip
   cases tl <;> first | exact nb h | skip
   cases v <;> first | exact nb h | skip
   rename_i vs _ _
   rcases vs with _ | ⟨a,_ | ⟨b,_ | ⟨_,_⟩⟩⟩ <;> first | exact nb h | skip
   replace h:=an4 h
   obtain ⟨⟨⟨⟨h1,h2⟩,h3⟩,h4⟩,h5⟩:=h
   have h4':=h4
   unfold qus at h4'
   simp only [Bool.and_eq_true,Bool.not_eq_true',beq_iff_eq]at h4'
   rw[evS]
   exact q2z G.calm (by rw[G.hN];exact G.nd) (by rw[G.hN];exact dec h1) (by rw[G.hN];exact dec h2) (dec h3) (by rw[G.hsc];exact h4'.1.1.1.1.1.2) (by rw[G.hsc];exact h4'.1.1.1.1.2) (sA hcx as G h5) (qut (by rw[G.hsc];exact h4)) (qof rfl)
 | .aug op i e,s,X,E',st,G,h=>by
   cases st <;> first | exact nb h | skip
   rename_i g o v _
   cases g <;> first | exact nb h | skip
   replace h:=an2 h
   cases dec h.1.1
   obtain ⟨a,b,c⟩:=G.lc h.1.2
   rw[evS];exact q21 (by rw[G.hN];exact G.nd) a b (sE hcx e G h.2) c
 | .augIx op o i e,s,X,E',st,G,h=>by
   cases st <;> first | exact nb h | skip
   rename_i g o v _
   cases g <;> first | exact nb h | skip
   replace h:=an4 h
   obtain ⟨⟨⟨⟨h1,h2⟩,h3⟩,h4⟩,h5⟩:=h
   cases dec h1
   rw[evS];exact qul G.units1 (sE hcx o G h3) (sE hcx i G h4) (sE hcx e G h5) (qzz h2)
 | .sfor t i b,s,X,E',st,G,h=>by
   cases st <;> first | exact nb h | skip
   rename_i g it b' els _
   cases els <;> first | exact nb h | skip
   replace h:=an3 h
   obtain ⟨⟨⟨h1,h2⟩,h3⟩,h4⟩:=h
   rw[evS];exact q24 G.own G.calm (sI hcx i G h2) (sG hcx t G h3) (sL b G h4) (qbe h1)
 | .swhile c b,s,X,E',st,G,h=>by
   cases st <;> first | exact nb h | skip
   rename_i z b' els _
   cases els <;> first | exact nb h | skip
   replace h:=an1 h
   rw[evS];exact qum G.own (sB hcx c G h.1) (sL b G h.2)
 | .brk,s,X,E',st,G,h=>by
   cases st <;> first | exact nb h | skip
   rw[evS];exact qug
 | .cont,s,X,E',st,G,h=>by
   cases st <;> first | exact nb h | skip
   rw[evS];exact qzf
 | .rse,s,X,E',st,G,h=>by
   rw[evS];exact fun pins s σ H D I ⟨w,Γ,S,rel,hold,q⟩=>False.elim q
theorem sL:∀ (c:CSL) {s:Sx} {X:Cx} {E':XK} {ss:List Stmt},Gd CX Φ s X E'→qfh s c ss=true→PSs X ss (tS (xw E') (qai Φ s.fns c))
 | .nil,s,X,E',ss,G,h=>by
   have:ss=[]:=emp h
   subst this
   rw[qai];exact q2t
 | .cons a r,s,X,E',ss,G,h=>by
   rcases ss with _ | ⟨x,xs⟩ <;> first | exact nb h | skip
   replace h:=an1 h
   rw[qai];exact qm2 (sS a G h.1) (sL r G h.2)
 | .gh i r,s,X,E',ss,G,h=>by
   rw[qai];exact q49 (sL r G h)
end
end
theorem nw0:qj6 CX0:=fun _ _ _ _ _ h=>h
section
variable {P:Program} {w:World} {K:PySem.W.Frag} {mg:Str→Option Value} {base:Heap}
inductive FT (CX:CXT) (P:Program) (w:World) (K:PySem.W.Frag) (mg:Str→Option Value) (base:Heap):List (Str × Nat × Nat)→List Fd→Prop where
 | nil:FT CX P w K mg base [] []
 | cons {x:Str} {n k:Nat} {F:Fd} {r:List (Str × Nat × Nat)} {Φ:List Fd}:FnT CX P w K mg base x n k F→FT CX P w K mg base r Φ→FT CX P w K mg base ((x,n,k)::r) (F::Φ)
theorem FT.get {CX:CXT}:∀ {r:List (Str × Nat × Nat)} {Φ:List Fd},FT CX P w K mg base r Φ→∀ (j:Nat) (x:Str) (n k:Nat),r[j]? =some (x,n,k)→∃ F,Φ[j]? =some F∧FnT CX P w K mg base x n k F
 | _,_,.nil,j,x,n,k,e=>by simp at e
 | _,_,.cons h t,0,x,n,k,e=>by
   simp at e
   obtain ⟨rfl,rfl,rfl⟩:=e
   exact⟨_,rfl,h⟩
 | _,_,.cons h t,j+1,x,n,k,e=>by
   obtain ⟨F,e1,e2⟩:=t.get j x n k (by simpa using e)
   exact⟨F,by simpa using e1,e2⟩
theorem qhj {Φ:List Fd} {s:Sx} {N ps:List Str} {qual:Str} {sc:Scope} {f:Addr} {cdv:Value} {A:Around} {outer:List PySem.Env} {s₀:Shared} {H:Hp} {E E':XK} (S:qaf N ps sc) (hN:s.N=N) (hsc:s.sc=sc) (hf:s.fnb=fun _=>true) (hr:qam s.L (A.deeper (envOfC qual sc s₀.heap.objs.size f cdv)))
   (hb:∀ b ∈ s.bs,mg b=none) (hm:qf9 P w K mg s.md) (hF:FT CX0 P w K mg base s.fns Φ):Gd CX0 Φ s (qay CX0 P w K mg base N qual sc f cdv A outer s₀ H E).nox E' where
 hN:=hN.symm
 hsc:=hsc.symm
 hfn:=hf.symm
 calm:=rfl
 room:=hr
 own:=PassesOwn.never
 pass:=fun _ _ _ _ _ _ _ h=>False.elim h
 nd:=by rw[hN];exact S.nd
 blt:=hb
 md:=hm
 fns:=fun j x n k e=>hF.get j x n k e
theorem q0d {x qual:Str} {st:Stmt} {f:Addr} {fd:FuncData} {N ps:List Str} {k:Nat} {c:CSL} {fns:List (Str × Nat × Nat)} {Φ:List Fd} {bs:List Str} {md:Md} (F:Fun K x qual st f fd) (S:qaf N ps (qa st)) (hb:∀ b ∈ bs,mg b=none) (hm:qf9 P w K mg md) (hF:FT CX0 P w K mg base fns Φ)
   (h:qfh ⟨N,qa st,fun _=>true,fns,k,bs,md⟩ c (qo st)=true):qap P w K mg base CX0 (k+1) f fd ps (spT ps.length (qd2 (qai Φ fns c) (N.length - ps.length))) :=
 q29 F S fun cdv A outer s H E hr=>sL nw0 c (qhj (s:=⟨N,qa st,fun _=>true,fns,k,bs,md⟩) S rfl rfl rfl hr hb hm hF) h
theorem qsb {x:Str} {n k:Nat} {F:Fd} {f:Addr} {fd:FuncData} {ps:List Str} (G:qap P w K mg base CX0 k f fd ps (spT n F)) (m:mg x=some (.ref f)) (kp:PySem.W.keepIn K (.ref f)=true) (b:Binds K fd ps []):FnT CX0 P w K mg base x n k F:=⟨f,fd,ps,G,m,kp,b⟩
noncomputable def sp_law (K:PySem.W.Frag):Sp:=fun vs H Q _=>∃ (a:Addr) (ns:List Int),vs=[.ref a]∧SqL K H a (ns.map V.int)∧ns.length≤63∧∀ H',Q (.bl true) H'
noncomputable def sp_box (K:PySem.W.Frag):Sp:=fun vs H Q _=>∃ (a:Addr) (ns:List Int),vs=[.ref a]∧SqL K H a (ns.map V.int)∧ns.length≤63 ∧
 ∀ (b c:Addr) (ms:List Int) (H':Hp),H b=none→H c=none→c ≠ b→qdt H H'→H' b=some (.lst [.ref c,.int 0,.int 0,.int 17])→H' c=some (.lst (ms.map V.int))→Q (.ref b) H'
noncomputable def qsc (ms:List Int):Cell:=.lst [.lst (ms.map D.int),.int 0,.int 0,.int 17]
theorem qb.ints {w:Wd} {H:Hp}:∀ (ms:List Int),qb w H (ms.map D.int) (ms.map V.int)
 | []=>rfl
 | m::ms=>⟨_,_,rfl,rfl,qb.ints ms⟩
theorem q0e {st:Stmt} {rest:List Stmt} {f:Addr} {fd:FuncData} {N:List Str} {bx:Str} {p1 p2 p3 p4 p5:Pos} {k kb:Nat} {c:CSL} {fns:List (Str × Nat × Nat)} {Φ:List Fd} {bs:List Str} {md:Md} (F:Fun K "law" "law" st f fd) (S:qaf N ["_law_script"] (qa st))
   (hst:qo st=.Assign [.Name bx p1] (.Call (.Name "_law_box" p2) [.Name "_law_script" p3] [] p4) p5::rest) (hx:qet ⟨N,qa st,fun _=>true,fns,k,bs,md⟩ 1 bx=true) (hy:qaq ⟨N,qa st,fun _=>true,fns,k,bs,md⟩ 0 "_law_script"=true) (hg:qcm ⟨N,qa st,fun _=>true,fns,k,bs,md⟩ "_law_box"=true)
   (Gb:Fn P w K mg base "_law_box" ["_law_script"] kb (sp_box K)) (hk:kb≤k) (hb:∀ b ∈ bs,mg b=none) (hm:qf9 P w K mg md) (hF:FT CX0 P w K mg base fns Φ) (h:qfh ⟨N,qa st,fun _=>true,fns,k,bs,md⟩ c rest=true)
   (hl:∀ (a:Addr) (ms:List Int),∃ Γ' S',qai Φ fns c (some (.at_ a)::some (.ref 0)::List.replicate (N.length - 2) none) [qsc ms]=.ok (.rt (.bl true),Γ') S'):qap P w K mg base CX0 (k+1) f fd ["_law_script"] (sp_law K):=by
 refine F.ok S (fun vs H Q E h=> ?_) (fun cdv A outer s H vs Q E hr h'=> ?_)
 · obtain ⟨a,ns,rfl,_⟩:=h
   rfl
 · obtain ⟨a,ns,rfl,hS,hlen,kq⟩:=h'
   have G:Gd CX0 Φ ⟨N,qa st,fun _=>true,fns,k,bs,md⟩ (qay CX0 P w K mg base N "law" (qa st) f cdv A outer s H E).nox E0:=qhj S rfl rfl rfl hr hb hm hF
   obtain ⟨g1,g2,g3⟩:=G.lc hx
   obtain ⟨g4,g5,g6⟩:=G.gl hg
   have hy':=hy
   unfold qaq at hy'
   simp only [Bool.and_eq_true,Bool.not_eq_true',decide_eq_true_eq]at hy'
   have h0:PE (qay CX0 P w K mg base N "law" (qa st) f cdv A outer s H E).nox (.Name "_law_script" p3) (qgo 0):=qex hy'.1.1.1 (qhi hy'.1.1.2) hy'.1.2 hy'.2
   have h1:=q1x (pos:=p4) (p:=p2) Gb hr hk g4 (qq h0 qbo rfl) g5 rfl rfl
   have h2:=sL nw0 c G h
   refine⟨_,by rw[hst];exact qef (qmh (i:=1) (pos:=p5) (pos':=p1) S.nd g1 g2 h1 rfl g3) h2,?_⟩
   refine⟨.ref a,rfl,a,ns,rfl,hS,hlen,fun b c' ms H' hb hc hne hs e1 e2=> ?_⟩
   have hN2:2≤N.length:=by have:=(List.getElem?_eq_some_iff.mp g1).1;exact this
   have hsz:(L2.start N [V.ref a]).set 1 (some (.ref b))=some (.ref a)::some (.ref b)::List.replicate (N.length - 2) none:=by
     unfold L2.start
     obtain ⟨m,hm⟩:∃ m,N.length=m+2:=⟨N.length - 2,by omega⟩
     rw[hm]
     simp [List.replicate_succ]
   obtain ⟨Γ',S',he⟩:=hl a ms
   refine⟨⟨[b],fun z=>z=c'⟩,some (.at_ a)::some (.ref 0)::List.replicate (N.length - 2) none,[qsc ms],?_,?_,?_⟩
   · rw[hsz]
     refine⟨by simp,fun i d e=> ?_⟩
     match i with
     | 0=>simp at e;subst e;exact⟨.ref a,rfl,rfl⟩
     | 1=>simp at e;subst e;exact⟨.ref b,rfl,b,rfl,rfl⟩
     | i+2=>simp [List.getElem?_replicate]at e
   · refine⟨fun z hz=>by rw[hz,e2];simp,rfl,by simp,fun z hz=>by rw[List.mem_singleton.mp hz,e1];simp,fun l a' cc ea ec=> ?_⟩
     match l with
     | 0 =>
       simp at ea ec
       subst ea ec
       exact⟨Ne.symm hne,_,e1,⟨_,_,rfl,⟨c',_,rfl,rfl,e2,qb.ints ms⟩,_,_,rfl,rfl,_,_,rfl,rfl,_,_,rfl,rfl,rfl⟩⟩
     | l+1=>simp at ea
   · rw[he]
     intro w' H'' _ _ v rv
     cases (show v=.bl true from rv)
     exact kq _
end
theorem len0 {α:Type} {P:List α→Prop} (h:P []):∀ us:List α,us.length=0→P us
 | [],_=>h
 | _::_,e=>by cases e
theorem q0f {α:Type} {P:List α→Prop} (h:∀ a,P [a]):∀ us:List α,us.length=1→P us
 | [],e=>by cases e
 | a::r,e=>len0 (P:=fun r=>P (a::r)) (h a) r (Nat.succ.inj e)
theorem qne {α:Type} {P:List α→Prop} (h:∀ a b,P [a,b]):∀ us:List α,us.length=2→P us
 | [],e=>by cases e
 | a::r,e=>q0f (P:=fun r=>P (a::r)) (h a) r (Nat.succ.inj e)
theorem qvb {α:Type} {P:List α→Prop} (h:∀ a b c,P [a,b,c]):∀ us:List α,us.length=3→P us
 | [],e=>by cases e
 | a::r,e=>qne (P:=fun r=>P (a::r)) (h a) r (Nat.succ.inj e)
noncomputable def q0g (N P:List Str) (sc:Scope):Bool:=decide (sc.kind=.function) && !sc.isCoroutine && !sc.isGenerator && decide N.Nodup && decide (N.take P.length=P) && (P.all fun x=>decide (sc.names.lookup x=some .local) || decide (sc.names.lookup x=some .cell)) && sc.names.all fun y=>decide (y.2 ≠ .free)
theorem qb4 {N P:List Str} {sc:Scope} (h:q0g N P sc=true):qaf N P sc:=by
 simp only [q0g,Bool.and_eq_true,Bool.not_eq_true',decide_eq_true_eq,List.all_eq_true,Bool.or_eq_true]at h
 obtain ⟨⟨⟨⟨⟨⟨h1,h2⟩,h3⟩,h4⟩,h5⟩,h6⟩,h7⟩:=h
 exact⟨h1,h2,h3,h4,h5,h6,h7⟩
noncomputable def dOk (N P:List Str) (st:Stmt) (fns:List (Str × Nat × Nat)) (k:Nat) (bs:List Str) (md:Md) (c:CSL):Bool:=q0g N P (qa st) && qfh ⟨N,qa st,fun _=>true,fns,k,bs,md⟩ c (qo st)
section
variable {P:Program} {w:World} {K:PySem.W.Frag} {mg:Str→Option Value} {base h:Heap} {x:Str} {f:Addr} {st:Stmt} {oc kV dc pm cd ct:Value} {od an:Option Addr} {sl:Array (Option Value)} {N ps:List Str} {k:Nat} {c:CSL} {fns:List (Str × Nat × Nat)} {Φ:List Fd} {md:Md} {bs:List Str}
theorem qfi (X:K.In h) (G:h.Ns mainGlobals mg) (a:PySem.W.nsIn K mainGlobals x=some (some (.ref f))) (l:K.lookup f=some ⟨oc,od,.func (PySem.W.fnOf x x (qar st) (qo st) (qa st) .none kV dc pm an cd ct),sl⟩) (q:PySem.W.codeIn K cd x=true) (kp:PySem.W.keepIn K (.ref f)=true)
   (hb:∀ us:List Value,us.length=ps.length→bindArgs (PySem.W.fnOf x x (qar st) (qo st) (qa st) .none kV dc pm an cd ct) ⟨us,[]⟩=pure (ps.zip us)) (B:∀ b ∈ bs,mg b=none) (hm:qf9 P w K mg md) (hF:FT CX0 P w K mg base fns Φ) (h:dOk N ps st fns k bs md c=true) :
   FnT CX0 P w K mg base x ps.length (k+1) (qd2 (qai Φ fns c) (N.length - ps.length)):=by
 have F:=qe0 (st:=st) l q kp
 unfold dOk at h
 rw[Bool.and_eq_true]at h
 exact qsb (q0d F (qb4 h.1) B hm hF h.2) (PySem.W.mg_of X G a) kp (.all hb)
theorem q3m {n:Nat} (X:K.In h) (G:h.Ns mainGlobals mg) (a:PySem.W.nsIn K mainGlobals x=some (some (.ref f))) (l:K.lookup f=some ⟨oc,od,.func (PySem.W.fnOf x x (qar st) (qo st) (qa st) .none kV dc pm an cd ct),sl⟩) (q:PySem.W.codeIn K cd x=true) (kp:PySem.W.keepIn K (.ref f)=true)
   (hb:∀ us:List Value,us.length=ps.length→bindArgs (PySem.W.fnOf x x (qar st) (qo st) (qa st) .none kV dc pm an cd ct) ⟨us,[]⟩=pure (ps.zip us)) (S:qaf N ps (qa st)):FnT CX0 P w K mg base x n 1 (fun _=>M.fail) :=
 qsb ((qe0 (st:=st) l q kp).ok (sp:=spT n fun _=>M.fail) S (fun vs H Q E h=>by obtain ⟨_,_,_,_,_,_,q⟩:=h;exact False.elim q) (fun cdv A outer s H vs Q E hr h=>by obtain ⟨_,_,_,_,_,_,q⟩:=h;exact False.elim q)) (PySem.W.mg_of X G a) kp (.all hb)
end
noncomputable def Ok {α:Type} (r:Out α) (P:α→Sto→Prop):Prop:=match r with
 | .ok a S=>P a S
 | _=>False
@[simp] theorem qsd {α:Type} {a:α} {S:Sto} {P:α→Sto→Prop}:Ok (.ok a S) P=P a S:=(rfl)
theorem qdg {α β:Type} {m:M α} {k:α→M β} {S:Sto} {P:β→Sto→Prop}:Ok (M.bind m k S) P=Ok (m S) (fun a S1=>Ok (k a S1) P):=by
 unfold M.bind
 cases m S <;> rfl
theorem Ok.mono {α:Type} {r:Out α} {P Q:α→Sto→Prop} (h:Ok r Q) (k:∀ a S,Q a S→P a S):Ok r P:=by
 cases r with
 | ok a S=>exact k a S h
 | err x S=>exact h
 | no=>exact h
theorem qh9 {c:Prop} [Decidable c] {A B:Prop} (h1:c→A) (h2:¬ c→B):if c then A else B:=by
 by_cases h:c
 · rw[if_pos h];exact h1 h
 · rw[if_neg h];exact h2 h
@[simp] theorem pure_run {α:Type} {a:α} {S:Sto}:M.pure a S=.ok a S:=(rfl)
section
variable {Φ:List Fd} {f:List (Str × Nat × Nat)} {Γ:Env} {S:Sto} {P:D→Sto→Prop}
theorem okb {α β:Type} {m:M α} {k:α→M β} {S:Sto} {P:β→Sto→Prop}:Ok (M.bind m k S) P=Ok (m S) (fun a S1=>Ok (k a S1) P):=qdg
@[simp] theorem q52 {i:Nat}:Ok (evE Φ f (.var i) Γ S) P=Ok (qdz i Γ S) P:=by rw[evE]
@[simp] theorem q53 {i:Int}:Ok (evE Φ f (.int i) Γ S) P=P (.int i) S:=by rw[evE];rfl
@[simp] theorem q54 {i:Str}:Ok (evE Φ f (.str i) Γ S) P=P (.str i) S:=by rw[evE];rfl
@[simp] theorem q6v {i:Bool}:Ok (evE Φ f (.bl i) Γ S) P=P (.bl i) S:=by rw[evE];rfl
@[simp] theorem q55:Ok (evE Φ f .non Γ S) P=P .non S:=by rw[evE];rfl
@[simp] theorem q6w {n:String}:Ok (evE Φ f (.ty n) Γ S) P=P (.ty n) S:=by rw[evE];rfl
@[simp] theorem q56 {nw:Bool} {op:Operator} {a b:CE}:Ok (evE Φ f (.bin nw op a b) Γ S) P=Ok (evE Φ f a Γ S) fun x S1=>Ok (evE Φ f b Γ S1) fun y S2=>Ok (qjn nw op x y S2) P:=by rw[evE,okb];simp only [okb]
@[simp] theorem q57 {a:CE}:Ok (evE Φ f (.neg a) Γ S) P=Ok (evE Φ f a Γ S) fun x S1=>Ok (qrj x S1) P:=by rw[evE,okb]
@[simp] theorem q58 {op:CmpOp} {a b:CE}:Ok (evE Φ f (.cmp op a b) Γ S) P=Ok (evE Φ f a Γ S) fun x S1=>Ok (evE Φ f b Γ S1) fun y S2=>Ok (qca op x y S2) P:=by rw[evE,okb];simp only [okb]
@[simp] theorem q59 {a b:CE}:Ok (evE Φ f (.and a b) Γ S) P=Ok (evE Φ f a Γ S) fun x S1=>Ok (asB x S1) fun d S2=>if d=true then Ok (evE Φ f b Γ S2) P else P (.bl false) S2:=by
 rw[evE];unfold qyv;rw[okb];simp only [okb];congr;funext x S1;congr;funext d S4;cases d <;> rfl
@[simp] theorem q6a {a:CE}:Ok (evE Φ f (.one a) Γ S) P=Ok (evE Φ f a Γ S) P:=by rw[evE]
@[simp] theorem q6b {as:CL}:Ok (evE Φ f (.tup as) Γ S) P=Ok (evA Φ f as Γ S) fun ds S1=>Ok (mkT ds S1) P:=by rw[evE,okb]
@[simp] theorem q6c {nw:Bool} {as:CL}:Ok (evE Φ f (.lst nw as) Γ S) P=Ok (evA Φ f as Γ S) fun ds S1=>Ok (mkL nw ds S1) P:=by rw[evE,okb]
@[simp] theorem q6x {a i:CE}:Ok (evE Φ f (.ix a i) Γ S) P=Ok (evE Φ f a Γ S) fun x S1=>Ok (evE Φ f i Γ S1) fun y S2=>Ok (ixM (look x S2) y S2) P:=by rw[evE,okb];simp only [okb]
@[simp] theorem q5j {j:Nat} {as:CL}:Ok (evE Φ f (.call j as) Γ S) P=Ok (evA Φ f as Γ S) fun ds S1=>Ok (qa3 Φ f j ds S1) P:=by rw[evE,okb]
@[simp] theorem q6y {b:Bi} {as:CL}:Ok (evE Φ f (.bi b as) Γ S) P=Ok (evA Φ f as Γ S) fun ds S1=>Ok (biF b ds S1) P:=by rw[evE,okb]
@[simp] theorem q6z {m:Mt} {o:CE} {as:CL}:Ok (evE Φ f (.mt m o as) Γ S) P=Ok (evE Φ f o Γ S) fun x S1=>mtT m (look x S1)=true∧Ok (evA Φ f as Γ S1) fun ds S2=>Ok (mtF m x ds S2) P:=by
 rw[evE];unfold mtD;rw[okb];congr;funext x S1
 cases h:mtT m (look x S1)with
 | true=>simp only [if_true,okb,true_and]
 | false=>simp [M.fail,Ok]
@[simp] theorem q60 {nw:Bool} {n:Nat} {t:CG} {i:CI} {c:CF} {e:CE}:Ok (evE Φ f (.lc nw n t i c e) Γ S) P=Ok (evI Φ f i Γ S) fun r S1=>r.1.length < sizeLine∧Ok (lcA r.2 n (evG Φ f t) (evF Φ f c) (evE Φ f e) Γ [] r.1 S1) fun ds S2=>Ok (alloc nw (.lst ds) S2) P:=by
 rw[evE];unfold lcD;rw[okb];congr;funext r S1
 by_cases h:r.1.length < sizeLine
 · simp only [h,decide_true,if_true,true_and,okb,noErr]
   cases lcA r.2 n (evG Φ f t) (evF Φ f c) (evE Φ f e) Γ [] r.1 S1 <;> rfl
 · simp [h,M.fail,Ok]
@[simp] theorem q6d {a:CE}:Ok (evE Φ f (.frz a) Γ S) P=Ok (evE Φ f a Γ S) fun x S1=>Ok (qh6 x S1) P:=by rw[evE,okb]
variable {B:Bool→Sto→Prop}
@[simp] theorem q6e {op:CmpOp} {a b:CE}:Ok (evB Φ f (.cmp op a b) Γ S) B=Ok (evE Φ f a Γ S) fun x S1=>Ok (evE Φ f b Γ S1) fun y S2=>Ok (qca op x y S2) fun d S3=>Ok (asB d S3) B:=by rw[evB,okb,okb];simp only [okb]
@[simp] theorem q61 {a b:CB}:Ok (evB Φ f (.or a b) Γ S) B=Ok (evB Φ f a Γ S) fun d S2=>if d=true then B true S2 else Ok (evB Φ f b Γ S2) B:=by
 rw[evB];unfold orB;rw[okb];congr;funext d S4;cases d <;> rfl
@[simp] theorem q6f {a:CB}:Ok (evB Φ f (.one a) Γ S) B=Ok (evB Φ f a Γ S) B:=by rw[evB]
@[simp] theorem q6g {a:CB}:Ok (evB Φ f (.not a) Γ S) B=Ok (evB Φ f a Γ S) fun d S2=>B (!d) S2:=by rw[evB];unfold qyt;rw[okb];rfl
@[simp] theorem q6h {a:CE}:Ok (evB Φ f (.tru a) Γ S) B=Ok (evE Φ f a Γ S) fun d S2=>Ok (qpk d S2) B:=by rw[evB,okb]
@[simp] theorem q6i:Ok (evF Φ f .yes Γ S) B=B true S:=by rw[evF];rfl
variable {Q:List D→Sto→Prop} {O:Option Int→Sto→Prop} {I:List D × Src→Sto→Prop} {R:Fl × Env→Sto→Prop} {G:Env→Sto→Prop}
@[simp] theorem q6j:Ok (evA Φ f .nil Γ S) Q=Q [] S:=by rw[evA];rfl
@[simp] theorem q5k {a:CE} {r:CL}:Ok (evA Φ f (.cons a r) Γ S) Q=Ok (evE Φ f a Γ S) fun x S1=>Ok (evA Φ f r Γ S1) fun xs S2=>Q (x::xs) S2:=by rw[evA];unfold qrn;rw[okb];simp only [okb];rfl
@[simp] theorem q5l {a:CE}:Ok (evI Φ f (.seq a) Γ S) I=Ok (evE Φ f a Γ S) fun x S1=>Ok (qak x S1) I:=by rw[evI,okb]
@[simp] theorem q3w {as:CL}:Ok (evI Φ f (.rng1 as) Γ S) I=Ok (evA Φ f as Γ S) fun x S1=>Ok (qd0 x S1) I:=by rw[evI,okb]
@[simp] theorem q3x {as:CL}:Ok (evI Φ f (.enum as) Γ S) I=Ok (evA Φ f as Γ S) fun x S1=>Ok (qd1 x S1) I:=by rw[evI,okb]
@[simp] theorem q5m {as:CL}:Ok (evI Φ f (.zip as) Γ S) I=Ok (evA Φ f as Γ S) fun x S1=>Ok (qg8 x S1) I:=by rw[evI,okb]
@[simp] theorem q62 {i:Nat} {d:D}:Ok (evG Φ f (.nm i) d Γ S) G=G (Γ.set i (some d)) S:=by rw[evG];rfl
@[simp] theorem q63 {ts:CT} {ds:List D}:Ok (evG Φ f (.tg ts) (.tup ds) Γ S) G=(ds.length=qlu ts∧Ok (evT Φ f ts ds Γ S) G):=by
 rw[evG];unfold qrt;dsimp only [look];by_cases h:ds.length=qlu ts <;> simp [h,Ok]
@[simp] theorem q5n {o i:CE} {d:D}:Ok (evG Φ f (.sub o i) d Γ S) G=Ok (evE Φ f o Γ S) fun x S1=>Ok (evE Φ f i Γ S1) fun y S2=>Ok (setM x y d S2) fun _ S3=>G Γ S3:=by rw[evG];unfold qzl;rw[okb];simp only [okb];rfl
@[simp] theorem q5o:qlu .nil=0:=(rfl)
@[simp] theorem q5p {a:CG} {r:CT}:qlu (.cons a r)=qlu r+1:=(rfl)
@[simp] theorem q5q:Ok (evT Φ f .nil [] Γ S) G=G Γ S:=by rw[evT];rfl
@[simp] theorem q3y {a:CG} {r:CT} {d:D} {ds:List D}:Ok (evT Φ f (.cons a r) (d::ds) Γ S) G=Ok (evG Φ f a d Γ S) fun Γ1 S1=>Ok (evT Φ f r ds Γ1 S1) G:=by rw[evT];unfold qjr;rw[okb]
@[simp] theorem q64 {a:CE}:Ok (evS Φ f (.ex a) Γ S) R=Ok (evE Φ f a Γ S) fun _ S1=>R (.nx,Γ) S1:=by rw[evS,okb];rfl
@[simp] theorem q6k {a:CE}:Ok (evS Φ f (.ret a) Γ S) R=Ok (evE Φ f a Γ S) fun d S1=>R (.rt d,Γ) S1:=by rw[evS,okb];rfl
@[simp] theorem q65 {c:CB} {a b:CSL}:Ok (evS Φ f (.sif c a b) Γ S) R=Ok (evB Φ f c Γ S) fun d S1=>if d=true then Ok (qai Φ f a Γ S1) R else Ok (qai Φ f b Γ S1) R:=by rw[evS];unfold ifS;rw[okb];congr;funext d S4;cases d <;> rfl
@[simp] theorem q6l {t:CG} {e:CE}:Ok (evS Φ f (.asg t e) Γ S) R=Ok (evE Φ f e Γ S) fun d S1=>Ok (evG Φ f t d Γ S1) fun Γ1 S2=>R (.nx,Γ1) S2:=by rw[evS,okb];simp only [okb];rfl
@[simp] theorem q6m {i:Nat} {e:CE}:Ok (evS Φ f (.set i e) Γ S) R=Ok (evE Φ f e Γ S) fun d S1=>R (.nx,Γ.set i (some d)) S1:=by rw[evS,okb];rfl
@[simp] theorem q6n {op:Operator} {i:Nat} {e:CE}:Ok (evS Φ f (.aug op i e) Γ S) R=Ok (qdz i Γ S) fun x S1=>Ok (evE Φ f e Γ S1) fun y S2=>Ok (ipD op x y S2) fun z S3=>R (.nx,Γ.set i (some z)) S3:=by rw[evS];unfold quj;rw[okb];simp only [okb];rfl
@[simp] theorem q3z {op:Operator} {o i e:CE}:Ok (evS Φ f (.augIx op o i e) Γ S) R=Ok (evE Φ f o Γ S) fun x S1=>Ok (evE Φ f i Γ S1) fun y S2=>Ok (ixW x y S2) fun u S3=>Ok (evE Φ f e Γ S3) fun v S4=>Ok (ipD op u v S4) fun z S5=>Ok (setM x y z S5) fun _ S6=>R (.nx,Γ) S6:=by
 rw[evS];unfold augIx;rw[okb];simp only [okb];rfl
@[simp] theorem q6o {t:CG} {i:CI} {b:CSL}:Ok (evS Φ f (.sfor t i b) Γ S) R=Ok (evI Φ f i Γ S) fun r S1=>Ok (forL r.2 (evG Φ f t) (qai Φ f b) r.1 Γ S1) R:=by rw[evS];unfold qzq;rw[okb]
@[simp] theorem q6p:Ok (qai Φ f .nil Γ S) R=R (.nx,Γ) S:=by rw[qai];rfl
noncomputable def Go (Φ:List Fd) (f:List (Str × Nat × Nat)) (r:CSL) (R:Fl × Env→Sto→Prop) (x:Fl × Env) (S:Sto):Prop:=match x.1 with
 | .nx=>Ok (qai Φ f r x.2 S) R
 | _=>R x S
theorem qd {a:CS} {r:CSL}:Ok (qai Φ f (.cons a r) Γ S) R=Ok (evS Φ f a Γ S) (Go Φ f r R):=by
 rw[qai];unfold seqS;rw[okb];congr;funext x S1;obtain ⟨fl,Γ1⟩:=x;cases fl <;> rfl
@[simp] theorem qja {r:CSL}:Go Φ f r R (.nx,Γ) S=Ok (qai Φ f r Γ S) R:=(rfl)
@[simp] theorem q6q {r:CSL} {d:D}:Go Φ f r R (.rt d,Γ) S=R (.rt d,Γ) S:=(rfl)
noncomputable def Ret (P:D→Sto→Prop):Fl × Env→Sto→Prop:=fun r S'=>match r.1 with
 | .rt d=>P d S'
 | .nx=>P .non S'
 | _=>False
@[simp] theorem q5r {d:D}:Ret P (.rt d,Γ) S=P d S:=(rfl)
end
theorem Ok.run {body:MS} {m:Nat} {ds:List D} {S:Sto} {P:D→Sto→Prop} (h:Ok (body (ds.map some++List.replicate m none) S) (Ret P)):Ok (qd2 body m ds S) P:=by
 unfold qd2
 cases e:body (ds.map some++List.replicate m none) S with
 | ok r S' =>
   rw[e]at h
   obtain ⟨fl,Γ⟩:=r
   cases fl <;> exact h
 | err x S'=>rw[e]at h;exact h
 | no=>rw[e]at h;exact h
@[simp] theorem q00 {n:Nat} {F:Fd} {ds:List D}:qbl n F ds=if ds.length=n then F ds else M.fail:=(rfl)
@[simp] theorem qvc {S:Sto} {l:Nat} {xs:List D} (h:S[l]? =some (.lst xs)):look (.ref l) S=.lst xs:=by unfold look;dsimp only;rw[h]
@[simp] theorem q01 {S:Sto} {xs:List D}:look (.lst xs) S=.lst xs:=(rfl)
@[simp] theorem q6r {nw:Bool} {i j:Int}:qjn nw .Add (.int i) (.int j)=M.pure (.int (i+j)):=(rfl)
@[simp] theorem q6s {nw:Bool} {i j:Int}:qjn nw .Sub (.int i) (.int j)=M.pure (.int (i - j)):=(rfl)
theorem qlw {nw:Bool} {i j:Int} (h:qcs i j=true):qjn nw .Mult (.int i) (.int j)=M.pure (.int (i * j)):=by
 funext S;show (if qcs i j=true then M.pure (D.int (i * j))else M.fail) S=_;rw[h];rfl
theorem qse {nw:Bool} {i j:Int} (h:qdm i j):qjn nw .FloorDiv (.int i) (.int j)=M.pure (.int (i / j)):=by
 funext S;show (if decide (qdm i j)=true then M.pure (D.int (i / j))else M.fail) S=_;rw[decide_eq_true h];rfl
theorem qok {nw:Bool} {i j:Int} (h:0 < j):qjn nw .Mod (.int i) (.int j)=M.pure (.int (i % j)):=by
 funext S;show (if decide (0 < j)=true then M.pure (D.int (i % j))else M.fail) S=_;rw[decide_eq_true h];rfl
theorem qwl {nw:Bool} {i j:Int} (h:qk0 i j):qjn nw .Pow (.int i) (.int j)=M.pure (.int (i ^ j.toNat)):=by
 funext S;show (if decide (qk0 i j)=true then M.pure (D.int (i ^ j.toNat))else M.fail) S=_;rw[decide_eq_true h];rfl
@[simp] theorem q66 {i j:Int}:qca .Lt (.int i) (.int j)=M.pure (.bl (decide (i < j))):=(rfl)
@[simp] theorem q67 {i j:Int}:qca .Gt (.int i) (.int j)=M.pure (.bl (decide (j < i))):=(rfl)
@[simp] theorem q68 {i j:Int}:qca .GtE (.int i) (.int j)=M.pure (.bl (decide (j≤i))):=(rfl)
@[simp] theorem q69 {i j:Int}:qca .Eq (.int i) (.int j)=M.pure (.bl (i==j)):=by
 funext S
 show (if decide (D.dep (.int i)≤60) && qmk (.int i) (.int j)then M.pure (D.bl (false != eqV (.int i) (.int j)))else M.fail) S=_
 simp [D.dep,qmk,eqV]
@[simp] theorem q5s {b:Bool}:asB (.bl b)=M.pure b:=(rfl)
@[simp] theorem q30 {ds:List D}:mkT ds=if sizeOk ds.length then M.pure (.tup ds)else M.fail:=(rfl)
theorem qp4 {n:Nat} (h:n≤1000):sizeOk n=true:=decide_eq_true (Nat.le_of_lt (qbw h))
@[simp] theorem q6t {o:Option D} {Γ:Env}:qdz 0 (o::Γ)=match o with | some d=>M.pure d | none=>M.fail:=by
 unfold qdz;cases o <;> rfl
@[simp] theorem q6u {o:Option D} {Γ:Env} {i:Nat}:qdz (i+1) (o::Γ)=qdz i Γ:=by
 unfold qdz;rw[List.getElem?_cons_succ]
@[simp] theorem q5t {xs:List D} {i:Int} {S:Sto}:ixM (.lst xs) (.int i) S=match atI xs i with | some d=>.ok d S | none=>.no:=by unfold ixM;dsimp only;cases atI xs i <;> rfl
@[simp] theorem q31 {l:Nat} {i:D} {S:Sto}:ixW (.ref l) i S=ixM (look (.ref l) S) i S:=(rfl)
@[simp] theorem q7a {α:Type} {a:α} {xs:List α}:atI (a::xs) 0=some a:=by unfold atI ixN;simp
@[simp] theorem q7b {α:Type} {a b:α} {xs:List α}:atI (a::b::xs) 1=some b:=qgb (j:=1) rfl
@[simp] theorem q7c {α:Type} {a b c:α} {xs:List α}:atI (a::b::c::xs) 2=some c:=qgb (j:=2) rfl
@[simp] theorem q7d {α:Type} {a b c d:α} {xs:List α}:atI (a::b::c::d::xs) 3=some d:=qgb (j:=3) rfl
theorem qeu {S:Sto} {l:Nat} {k:Int} {v:D}:setM (.ref l) (.int k) v S=match S[l]? with
   | some (.lst xs)=>match ixN xs.length k with
     | some j=>.ok () (S.set l (.lst (xs.set j v)))
     | none=>.no
   | some (.dct ks xs)=>if ks.length < sizeLine then .ok () (S.set l (.dct (qbs ks (.inl k)) (qbc ks xs (.inl k) v)))else .no
   | _=>.no:=by
 unfold setM;dsimp only;cases S[l]? with
 | none=>rfl
 | some c=>cases c <;> rfl
@[simp] theorem q7e {i j:Int} {S:Sto}:ipD .Add (.int i) (.int j) S=.ok (.int (i+j)) S:=(rfl)
@[simp] theorem q0h {xs:List D} {S:Sto}:biF .len [.lst xs] S=.ok (.int xs.length) S:=(rfl)
theorem q0i {α:Type} {xs:List α} {i:Int} (h0:0≤i) (h1:i < xs.length):∃ v,xs[i.toNat]? =some v∧atI xs i=some v:=by
 have hl:i.toNat < xs.length:=by omega
 refine⟨xs[i.toNat],List.getElem?_eq_getElem hl,?_⟩
 unfold atI ixN
 rw[if_pos h0,if_pos h1]
 exact List.getElem?_eq_getElem hl
noncomputable def qfj (c:Cell):Prop:=∃ (cells:List Int) (i r z:Int),c=.lst [.lst (cells.map D.int),.int i,.int r,.int z]∧0≤i∧0≤z∧z < 2147483629
noncomputable def qd4:CSL:=(.cons (.sif (.cmp .Gt (.ix (.var 0) (.int 2)) (.int 0)) (.cons (.set 2 (.ix (.var 0) (.int 2))) (.cons (.asg (.sub (.var 0) (.int 2)) (.bin false .FloorDiv (.var 2) (.var 1))) (.cons (.ret (.bin false .Mod (.var 2) (.var 1))) .nil))) .nil) (.cons (.set 3 (.int 0)) (.cons (.sif (.cmp .Lt (.ix (.var 0) (.int 1)) (.bi .len (.cons (.ix (.var 0) (.int 0)) .nil))) (.cons (.set 3 (.ix (.ix (.var 0) (.int 0)) (.ix (.var 0) (.int 1)))) (.cons (.augIx .Add (.var 0) (.int 1) (.int 1)) .nil)) .nil) (.cons (.sif (.cmp .GtE (.var 3) (.bin false .Pow (.int 10) (.int 18))) (.cons (.asg (.sub (.var 0) (.int 2)) (.bin false .FloorDiv (.var 3) (.var 1))) (.cons (.ret (.bin false .Mod (.var 3) (.var 1))) .nil)) .nil) (.cons (.set 4 (.ix (.var 0) (.int 3))) (.cons (.set 4 (.bin false .Add (.bin false .Add (.bin false .Pow (.var 4) (.int 3)) (.bin false .Mult (.int 48271) (.var 4))) (.bin false .Mult (.int 69621) (.bin false .Mod (.var 3) (.int 2147483629))))) (.cons (.asg (.sub (.var 0) (.int 3)) (.bin false .Mod (.bin false .Add (.var 4) (.int 11)) (.int 2147483629))) (.cons (.ret (.bin false .Mod (.bin false .FloorDiv (.ix (.var 0) (.int 3)) (.int 64)) (.var 1))) .nil))))))))
noncomputable def qnf:List (Str × Nat × Nat):=[]
noncomputable def qat:Fd:=qd2 (qai [] [] qd4) 3
theorem qal {c:Cell} {S:Sto} {m:Int} {P:D→Sto→Prop} (hc:qfj c) (h1:1≤m) (h2:m < 2 ^ 200) (k:∀ r c',0≤r→r < m→qfj c'→P (.int r) (c'::S)):Ok (qat [.ref 0,.int m] (c::S)) P:=by
 obtain ⟨cells,i,r,z,rfl,hi,hz,hz'⟩:=hc
 have hd:∀ i:Int,qdm i m:=fun i=>⟨by omega,h2⟩
 refine Ok.run ?_
 unfold qd4
 rw[qd]
 simp
 refine qh9 (fun h=> ?_) fun h=> ?_
 · simp [qd,qeu,qse (hd _),qok (show 0 < m by omega),ixN]
   exact k _ _ (Int.emod_nonneg _ (by omega)) (Int.emod_lt_of_pos _ (by omega)) ⟨cells,i,_,z,rfl,hi,hz,hz'⟩
 · rw [qd]
   simp
   rw[qd]
   refine Ok.mono (Q:=fun x S'=>∃ v i',x=(.nx,[some (.ref 0),some (.int m),none,some (.int v),none])∧0≤i'∧S'=.lst [.lst (cells.map D.int),.int i',.int r,.int z]::S) ?_ ?_
   · simp
     refine qh9 (fun h=> ?_) fun h=> ?_
     · obtain ⟨v,e1,e2⟩:=q0i (xs:=cells.map D.int) hi (by simpa using h)
       simp at e1
       obtain ⟨v',_,rfl⟩:=e1
       simp [qd,qeu,e2,ixN]
       omega
     · simp [hi]
   · rintro _ _ ⟨v,i',rfl,hi',rfl⟩
     rw[qja,qd]
     simp [qwl (show qk0 10 18 from ⟨by decide,by decide,by decide⟩)]
     refine qh9 (fun h=> ?_) fun h=> ?_
     · simp [qd,qeu,qse (hd _),qok (show 0 < m by omega),ixN]
       exact k _ _ (Int.emod_nonneg _ (by omega)) (Int.emod_lt_of_pos _ (by omega)) ⟨cells,i',_,z,rfl,hi',hz,hz'⟩
     · have e1:qk0 z 3:=⟨by decide,by decide,by omega⟩
       have e2:qcs 48271 z=true:=by unfold qcs;rw[Bool.or_eq_true];exact .inl (decide_eq_true (.inl ⟨by decide,by decide⟩))
       have e3:qcs 69621 (v % 2147483629)=true:=by unfold qcs;rw[Bool.or_eq_true];exact .inl (decide_eq_true (.inl ⟨by decide,by decide⟩))
       simp [qd,qeu,qwl e1,qlw e2,qlw e3,qok (show 0 < m by omega),qok,qse (show qdm _ 64 from ⟨by decide,by decide⟩),ixN]
       exact k _ _ (Int.emod_nonneg _ (by omega)) (Int.emod_lt_of_pos _ (by omega)) ⟨cells,i',r,_,rfl,hi',Int.emod_nonneg _ (by decide),Int.emod_lt_of_pos _ (by decide)⟩
noncomputable def Nxt (R:Fl × Env→Sto→Prop) (J:Env→Sto→Prop):Fl × Env→Sto→Prop:=fun r S=>match r.1 with
 | .nx=>J r.2 S
 | .ct=>J r.2 S
 | .bk=>R (.nx,r.2) S
 | .rt d=>R (.rt d,r.2) S
section
variable {R:Fl × Env→Sto→Prop} {J:Env→Sto→Prop} {Γ:Env} {S:Sto}
@[simp] theorem q5u:Nxt R J (.nx,Γ) S=J Γ S:=(rfl)
@[simp] theorem q5v {d:D}:Nxt R J (.rt d,Γ) S=R (.rt d,Γ) S:=(rfl)
theorem qgk {α:Type} {src:Src} {k:M α} {P:α→Sto→Prop} (h:qaj src S):Ok (M.bind (guard src) (fun _=>k) S) P=Ok (k S) P:=by
 unfold M.bind;rw[qrw h]
theorem qfk {src:Src} {hd:D→Env→M Env} {body:MS} {ds:List D} (Iv:Nat→Env→Sto→Prop) (hs:∀ i Γ S,Iv i Γ S→qaj src S)
   (step:∀ (i:Nat) d Γ S,ds[i]? =some d→Iv i Γ S→Ok (hd d Γ S) fun Γ1 S1=>Ok (body Γ1 S1) (Nxt R (Iv (i+1)))) (fin:∀ Γ S,Iv ds.length Γ S→R (.nx,Γ) S) :
   ∀ (k i:Nat) Γ S,i+k=ds.length→Iv i Γ S→Ok (forL src hd body (ds.drop i) Γ S) R
 | 0,i,Γ,S,e,h=>by
   have:i=ds.length:=by omega
   subst this
   rw[List.drop_length,forL,qgk (hs _ _ _ h)]
   exact fin Γ S h
 | k+1,i,Γ,S,e,h=>by
   have hi:i < ds.length:=by omega
   rw[List.drop_eq_getElem_cons hi,forL,qgk (hs _ _ _ h),qdg]
   refine(step i _ Γ S (List.getElem?_eq_getElem hi) h).mono fun Γ1 S1 q=> ?_
   rw[qdg]
   refine q.mono fun r S2 q=> ?_
   obtain ⟨fl,Γ2⟩:=r
   cases fl with
   | nx=>exact qfk Iv hs step fin k (i+1) Γ2 S2 (by omega) q
   | ct=>exact qfk Iv hs step fin k (i+1) Γ2 S2 (by omega) q
   | bk=>exact q
   | rt d=>exact q
theorem qcn {src:Src} {hd:D→Env→M Env} {body:MS} {ds:List D} (Iv:Nat→Env→Sto→Prop) (h0:Iv 0 Γ S) (hs:∀ i Γ S,Iv i Γ S→qaj src S)
   (step:∀ (i:Nat) d Γ S,ds[i]? =some d→Iv i Γ S→Ok (hd d Γ S) fun Γ1 S1=>Ok (body Γ1 S1) (Nxt R (Iv (i+1)))) (fin:∀ Γ S,Iv ds.length Γ S→R (.nx,Γ) S):Ok (forL src hd body ds Γ S) R:=by
 have:=qfk (R:=R) (hd:=hd) (body:=body) Iv hs step fin ds.length 0 Γ S (by omega) h0
 simpa using this
theorem qhk {src:Src} {n:Nat} {hd:D→Env→M Env} {cond:Env→M Bool} {elt:Env→M D} {ds:List D} {Q:List D→Sto→Prop} (Iv:Nat→List D→Sto→Prop) (hs:∀ i a S,Iv i a S→qaj src S)
   (step:∀ (i:Nat) d a S,ds[i]? =some d→Iv i a S→Ok (hd d (List.replicate n none++Γ) S) fun Γ1 S1=>Ok (cond Γ1 S1) fun b S2=>if b=true then Ok (elt Γ1 S2) fun y S3=>Iv (i+1) (a++[y]) S3 else Iv (i+1) a S2) (fin:∀ a S,Iv ds.length a S→Q a S) :
   ∀ (k i:Nat) a S,i+k=ds.length→Iv i a S→Ok (lcA src n hd cond elt Γ a (ds.drop i) S) Q
 | 0,i,a,S,e,h=>by
   have:i=ds.length:=by omega
   subst this
   rw[List.drop_length,lcA,qgk (hs _ _ _ h)]
   exact fin a S h
 | k +1,i,a,S,e,h=>by
   have hi:i < ds.length:=by omega
   rw[List.drop_eq_getElem_cons hi,lcA,qgk (hs _ _ _ h),qdg]
   refine(step i _ a S (List.getElem?_eq_getElem hi) h).mono fun Γ1 S1 q=> ?_
   rw[qdg]
   refine q.mono fun b S2 q=> ?_
   cases b with
   | true =>
     rw[if_pos rfl]at q
     rw[if_pos rfl,qdg]
     exact q.mono fun y S3 q=>qhk Iv hs step fin k (i+1) _ S3 (by omega) q
   | false =>
     rw[if_neg Bool.false_ne_true]at q
     rw[if_neg Bool.false_ne_true]
     exact qhk Iv hs step fin k (i+1) _ S2 (by omega) q
theorem q0j {src:Src} {n:Nat} {hd:D→Env→M Env} {cond:Env→M Bool} {elt:Env→M D} {ds:List D} {Q:List D→Sto→Prop} (Iv:Nat→List D→Sto→Prop) (h0:Iv 0 [] S) (hs:∀ i a S,Iv i a S→qaj src S)
   (step:∀ (i:Nat) d a S,ds[i]? =some d→Iv i a S→Ok (hd d (List.replicate n none++Γ) S) fun Γ1 S1=>Ok (cond Γ1 S1) fun b S2=>if b=true then Ok (elt Γ1 S2) fun y S3=>Iv (i+1) (a++[y]) S3 else Iv (i+1) a S2) (fin:∀ a S,Iv ds.length a S→Q a S):Ok (lcA src n hd cond elt Γ [] ds S) Q:=by
 have:=qhk (Q:=Q) (hd:=hd) (cond:=cond) (elt:=elt) (n:=n) (Γ:=Γ) Iv hs step fin ds.length 0 [] S (by omega) h0
 simpa using this
end
noncomputable abbrev qia:CSL:=.cons (.ret (.call 0 (.cons (.var 0) (.cons (.int 1000000) .nil)))) .nil
noncomputable abbrev qib:CSL:=.cons (.set 2 (.bin false .Add (.bin false .Mult (.var 2) (.int 1000000)) (.call 0 (.cons (.var 0) (.cons (.int 1000000) .nil))))) .nil
noncomputable abbrev qic:CSL:=.cons (.ret (.var 2)) .nil
noncomputable abbrev qid:CSL:=.cons (.sfor (.nm 3) (.rng1 (.cons (.int 3) .nil)) qib) qic
noncomputable abbrev qie:CSL:=.cons (.set 2 (.int 0)) qid
noncomputable abbrev qif:CSL:=.cons (.sif (.cmp .Eq (.var 1) (.int 1)) qia .nil) qie
noncomputable abbrev qig:CSL:=.cons (.sif (.cmp .Eq (.var 1) (.int 0)) (.cons (.ret (.call 0 (.cons (.var 0) (.cons (.int 10) .nil)))) .nil) .nil) qif
noncomputable abbrev qc6:CSL:=.cons (.set 1 (.call 0 (.cons (.var 0) (.cons (.int 4) .nil)))) qig
noncomputable def qc7:List (Str × Nat × Nat):=[("_law_take",2,1)]
noncomputable def qfz:List Fd:=[qat]
@[simp] theorem qsf:qa3 qfz qc7 0=qbl 2 qat:=(rfl)
noncomputable def qb5:Fd:=qd2 (qai qfz qc7 qc6) 3
noncomputable abbrev qj7:CSL:=.cons (.ret (.and (.cmp .Eq (.bi .len (.cons (.var 0) .nil)) (.bi .len (.cons (.var 1) .nil))) (.one (.bi .all (.cons (.lc false 2 (.tg (.cons (.nm 0) (.cons (.nm 1) .nil))) (.zip (.cons (.var 0) (.cons (.var 1) .nil))) .yes (.call 0 (.cons (.var 0) (.cons (.var 1) .nil)))) .nil))))) .nil
noncomputable abbrev qj8:CSL:=.cons (.sif (.or (.cmp .NotEq (.bi .isi (.cons (.var 0) (.cons (.ty "list") .nil))) (.bi .isi (.cons (.var 1) (.cons (.ty "list") .nil)))) (.one (.cmp .NotEq (.bi .isi (.cons (.var 0) (.cons (.ty "tuple") .nil))) (.bi .isi (.cons (.var 1) (.cons (.ty "tuple") .nil)))))) (.cons (.ret (.bl false)) .nil) .nil) qj7
noncomputable abbrev qj9:CSL:=.cons (.ret (.and (.cmp .Is (.var 0) .non) (.one (.cmp .Is (.var 1) .non)))) .nil
noncomputable abbrev qka:CSL:=.cons (.ret (.and (.cmp .Eq (.bi .isi (.cons (.var 0) (.cons (.ty "str") .nil))) (.bi .isi (.cons (.var 1) (.cons (.ty "str") .nil)))) (.one (.cmp .Eq (.var 0) (.var 1))))) .nil
noncomputable abbrev qkb:CSL:=.cons (.sif (.or (.cmp .NotEq (.bi .isi (.cons (.var 0) (.cons (.ty "bool") .nil))) (.bi .isi (.cons (.var 1) (.cons (.ty "bool") .nil)))) (.one (.cmp .NotEq (.bi .isi (.cons (.var 0) (.cons (.ty "int") .nil))) (.bi .isi (.cons (.var 1) (.cons (.ty "int") .nil)))))) (.cons (.ret (.bl false)) .nil) .nil) qka
noncomputable abbrev qkc:CSL:=.cons (.sif (.or (.cmp .Is (.var 0) .non) (.one (.cmp .Is (.var 1) .non))) qj9 .nil) qkb
noncomputable abbrev qbf:CSL:=.cons (.sif (.or (.tru (.bi .isi (.cons (.var 1) (.cons (.ty "list") .nil)))) (.one (.tru (.bi .isi (.cons (.var 1) (.cons (.ty "tuple") .nil)))))) qj8 .nil) qkc
noncomputable def qd5 (d:Nat):List (Str × Nat × Nat):=[("_law_same",2,d+1)]
noncomputable def qj:Nat→Fd
 | 0=>fun _=>M.fail
 | d+1=>qd2 (qai [qj d] (qd5 d) qbf) 0
noncomputable abbrev qd6:CSL:=.cons (.ex (.mt .append (.var 3) (.cons (.bin false .Add (.int 1) (.call 0 (.cons (.var 0) (.cons (.int 12) .nil)))) .nil))) .nil
noncomputable abbrev qd7:CSL:=.cons (.ex (.mt .append (.var 3) (.cons (.bin false .Add (.int 1) (.call 0 (.cons (.var 0) (.cons (.int 1000) .nil)))) .nil))) .nil
noncomputable abbrev qd8:CSL:=.cons (.ex (.mt .append (.var 3) (.cons (.ix (.lst false (.cons (.int 1) (.cons (.int 1000) (.cons (.bin false .Mult (.int 6) (.bin false .Add (.int 1) (.call 0 (.cons (.var 0) (.cons (.int 20) .nil))))) (.cons (.bin false .Mult (.int 35) (.bin false .Add (.int 1) (.call 0 (.cons (.var 0) (.cons (.int 20) .nil))))) .nil))))) (.call 0 (.cons (.var 0) (.cons (.int 4) .nil)))) .nil))) .nil
noncomputable abbrev qd9:CSL:=.cons (.sif (.cmp .Eq (.var 2) (.int 1)) qd7 qd8) .nil
noncomputable abbrev qea:CSL:=.cons (.sif (.cmp .Eq (.var 2) (.int 0)) qd6 qd9) .nil
noncomputable abbrev qeb:CSL:=.cons (.ret (.frz (.var 3))) .nil
noncomputable abbrev qec:CSL:=.cons (.sfor (.nm 4) (.rng1 (.cons (.var 1) .nil)) qea) qeb
noncomputable abbrev qed:CSL:=.cons (.set 3 (.lst true .nil)) qec
noncomputable abbrev qbg:CSL:=.cons (.set 2 (.call 0 (.cons (.var 0) (.cons (.int 3) .nil)))) qed
noncomputable def qbh:List (Str × Nat × Nat):=[("_law_take",2,1)]
noncomputable def qce:List Fd:=[qat]
@[simp] theorem qme:qa3 qce qbh 0=qbl 2 qat:=(rfl)
noncomputable def qaw:Fd:=qd2 (qai qce qbh qbg) 3
theorem qwm {i j:Int} (h: -(2 ^ 64) < i) (h':i < 2 ^ 64):qcs i j=true:=by
 unfold qcs;rw[Bool.or_eq_true];exact .inl (decide_eq_true (.inl ⟨h,h'⟩))
theorem mul_r {i j:Int} (h: -(2 ^ 64) < j) (h':j < 2 ^ 64):qcs i j=true:=by
 unfold qcs;rw[Bool.or_eq_true];exact .inl (decide_eq_true (.inr ⟨h,h'⟩))
theorem qng {l:Nat} {S:Sto} {xs:List D} {f:List D→Option (D × List D)} (h:S[l]? =some (.lst xs)):qcl (.ref l) f S=match f xs with
   | some (d,ys)=>.ok d (S.set l (.lst ys))
   | none=>.no:=by
 unfold qcl;dsimp only;rw[h] <;> rfl
theorem qkd {new:Bool} {ds:List D} (h:ds.length≤1000):mkL new ds=alloc new (.lst ds):=by unfold mkL;rw[if_pos (qp4 h)]
@[simp] theorem q32 {new:Bool}:mkL new []=alloc new (.lst []):=qkd (Nat.zero_le _)
@[simp] theorem q33 {d:D} {S:Sto}:alloc true d S=.ok (.ref S.length) (S++[d.cell]):=(rfl)
@[simp] theorem q34 {d:D} {S:Sto}:alloc false d S=.ok d S:=(rfl)
@[simp] theorem q3n {xs:List D}:D.cell (.lst xs)=.lst xs:=(rfl)
@[simp] theorem q35 {xs:List D}:mtT .append (.lst xs)=true:=(rfl)
theorem q0k {l:Nat} {S:Sto} {xs:List D} {d:D} (h:S[l]? =some (.lst xs)) (hz:xs.length≤1000):mtF .append (.ref l) [d] S=.ok .non (S.set l (.lst (xs++[d]))):=by
 show qcl (.ref l) (fun xs=>if decide (xs.length < sizeLine)then some (.non,xs++[d])else none) S=_
 rw[qng h,if_pos (decide_eq_true (qbw hz))]
theorem qke {j:Int} (h:qfv j=true):qd0 [.int j]=M.pure (qh1 0 j.toNat,[]):=by
 unfold qd0;dsimp only;rw[if_pos h]
theorem qc8 {S:Sto}:qaj [] S:=fun p hp=>by simp at hp
theorem qlx {c:Cell} {S:Sto} {P:D→Sto→Prop} (hc:qfj c) (k:∀ r c',0≤r→r < 10 ^ 18→qfj c'→P (.int r) (c'::S)):Ok (qb5 [.ref 0] (c::S)) P:=by
 refine Ok.run ?_
 unfold qc6
 rw[qd]
 simp
 refine qal hc (by decide) (by decide) fun r c1 h0 h1 hc1=> ?_
 rw[qd]
 simp
 refine qh9 (fun h=> ?_) fun h=> ?_
 · simp [qd]
   exact qal hc1 (by decide) (by decide) fun r c1 h0 h1 hc1=>k r c1 h0 (by omega) hc1
 · rw [qd]
   simp
   refine qh9 (fun h=> ?_) fun h=> ?_
   · simp [qd]
     exact qal hc1 (by decide) (by decide) fun r c1 h0 h1 hc1=>k r c1 h0 (by omega) hc1
   · rw[qd]
     simp
     rw[qd]
     simp
     rw[qke (by decide)]
     simp
     refine qcn (fun i Γ S'=>∃ r2 v c2,Γ=[some (.ref 0),some (.int r),some (.int r2),v]∧S'=c2::S∧qfj c2∧0≤r2∧r2 < 1000000 ^ i) ⟨0,_,c1,rfl,rfl,hc1,by decide,by decide⟩ (fun _ _ _ _=>qc8) (fun i d Γ S' e h=> ?_) fun Γ S' h=> ?_
     · obtain ⟨r2,v,c2,rfl,rfl,hc2,a1,a2⟩:=h
       simp [qd,qlw (mul_r (i:=r2) (j:=1000000) (by decide) (by decide))]
       refine qal hc2 (by decide) (by decide) fun r3 c3 g0 g1 hc3=> ?_
       simp
       refine⟨hc3,by omega,?_⟩
       rw[Int.pow_succ]
       have:r2+1≤1000000 ^ i:=a2
       have:(r2+1) * 1000000≤1000000 ^ i * 1000000:=Int.mul_le_mul_of_nonneg_right this (by decide)
       omega
     · obtain ⟨r2,v,c2,rfl,rfl,hc2,a1,a2⟩:=h
       simp [qd]
       simp [qh1]at a2
       exact k r2 c2 a1 (by omega) hc2
theorem qf0:∀ ns:List Int,intsOf (ns.map D.int)=some ns
 | []=>rfl
 | n::ns=>by rw[List.map_cons,intsOf,qf0 ns];rfl
theorem sum_ints {ns:List Int}:qpo (ns.map D.int)=M.pure (.int ns.sum):=by
 unfold qpo;rw[qf0]
theorem qol {m n:Nat} (h:m≤n) (hn:n≤1000:=by omega):qfv (m:Int)=true:=by
 unfold qfv;rw[Bool.and_eq_true];exact⟨decide_eq_true (by omega),decide_eq_true (by omega)⟩
noncomputable def Still (d:D):Prop:=∀ (n:Nat) (S:Sto),frz n d S=some (d,S)
theorem qvd {l:Nat} {S:Sto} {xs:List D} (h:S[l]? =some (.lst xs)) (hs:∀ d ∈ xs,Still d):qh6 (.ref l) S=.ok (.lst xs) (S.set l .gone):=by
 have all:∀ (xs:List D) (S:Sto),(∀ d ∈ xs,Still d)→frzs 2 xs S=some (xs,S):=by
   intro xs
   induction xs with
   | nil=>intro S _;simp [frzs]
   | cons d ds ih =>
     intro S hs
     rw[frzs,hs d (by simp) 2 S]
     dsimp only
     rw[ih S fun x hx=>hs x (by simp [hx])]
 unfold qh6
 have:frz 3 (.ref l) S=some (.lst xs,S.set l .gone):=by simp [frz,h,all xs S hs]
 rw[this]
theorem qp5 {i:Int}:Still (.int i):=fun n S=>by cases n <;> simp [frz]
noncomputable def vec {α:Type} (n:Nat) (g:Nat→α):List α:=(List.range n).map g
section
variable {α β:Type} {n:Nat} {g:Nat→α}
@[simp] theorem qdh:(vec n g).length=n:=by simp [vec]
theorem qdi {i:Nat}:(vec n g)[i]? =if i < n then some (g i)else none:=by
 unfold vec;by_cases h:i < n <;> simp [h]
theorem qsg {i:Nat} {a:α} (h:(vec n g)[i]? =some a):i < n∧a=g i:=by
 rw[qdi]at h;split at h
 · exact⟨by assumption,(Option.some.inj h).symm⟩
 · cases h
theorem qfl {i:Nat} (h:i < n):(vec n g)[i]? =some (g i):=by rw[qdi,if_pos h]
theorem qve {i:Nat} (h:i < n):atI (vec n g) (i:Int)=some (g i):=qgb (qfl h)
theorem qom {f:α→β}:(vec n g).map f=vec n fun i=>f (g i):=by simp [vec,Function.comp_def]
theorem qvf {a:α} (h:a ∈ vec n g):∃ i < n,a=g i:=by
 simp [vec]at h;obtain ⟨i,hi,e⟩:=h;exact⟨i,hi,e.symm⟩
theorem qhl:vec (n+1) g=vec n g++[g n]:=by simp [vec,List.range_succ]
theorem qsh {g:Nat→D}:qfw (vec n g)=vec n fun i=>.tup [.int i,g i]:=by
 refine List.ext_getElem? fun k=> ?_
 rw[qdi]
 by_cases h:k < n
 · rw[if_pos h,qll (qfl h)]
 · rw[if_neg h,List.getElem?_eq_none_iff,qfa,qdh];omega
theorem qon:qh1 0 n=vec n fun i=>.int i:=by simp [qh1,vec]
theorem qvg {a:α}:List.replicate n a=vec n fun _=>a:=by
 refine List.ext_getElem? fun k=> ?_
 rw[qdi,List.getElem?_replicate]
theorem qsi (xs:List α) (d:α):xs=vec xs.length fun i=>xs.getD i d:=by
 refine List.ext_getElem? fun k=> ?_
 rw[qdi]
 by_cases h:k < xs.length
 · rw[if_pos h];simp [h]
 · rw[if_neg h];simp;omega
end
theorem qsj {n:Nat} (h:n≤1000):n < sizeLine:=qbw h
theorem qvh {Γ:Env} {S:Sto} {src:Src} {n k:Nat} {it g:Nat→D} {hd:D→Env→M Env} {cond:Env→M Bool} {elt:Env→M D} {Q:List D→Sto→Prop} (hs:qaj src S)
   (step:∀ i < n,Ok (hd (it i) (List.replicate k none++Γ) S) fun Γ1 S1=>Ok (cond Γ1 S1) fun b S2=>b=true∧Ok (elt Γ1 S2) fun y S3=>y=g i∧S3=S) (fin:Q (vec n g) S):Ok (lcA src k hd cond elt Γ [] (vec n it) S) Q:=by
 refine q0j (fun i a S'=>a=vec i g∧S'=S) ⟨rfl,rfl⟩ (fun i a S' h=>h.2 ▸ hs) (fun i d a S' e h=> ?_) fun a S' h=> ?_
 · obtain ⟨rfl,rfl⟩:=h
   obtain ⟨hi,rfl⟩:=qsg e
   refine(step i hi).mono fun Γ1 S1 q=>q.mono fun b S2 q=> ?_
   obtain ⟨rfl,q⟩:=q
   rw[if_pos rfl]
   refine q.mono fun y S3 q=> ?_
   obtain ⟨rfl,rfl⟩:=q
   exact⟨by rw[qhl],rfl⟩
 · obtain ⟨rfl,rfl⟩:=h
   rw[qdh]
   exact fin
noncomputable def sm:Nat→(Nat→Int)→Int
 | 0,_=>0
 | n+1,g=>sm n g+g n
@[simp] theorem neg_int {i:Int} {S:Sto}:qrj (.int i) S=.ok (.int (-i)) S:=(rfl)
noncomputable def qcc (n:Nat) (w:Nat→Int):D:=.lst (vec n fun i=>.int (w i))
@[simp] theorem q5w {i:Int} {S:Sto}:biF .isi [.int i,.ty "int"] S=.ok (.bl true) S:=(rfl)
@[simp] theorem q5x {i:Int} {S:Sto}:biF .isi [.int i,.ty "bool"] S=.ok (.bl false) S:=(rfl)
@[simp] theorem q5y {b:Bool} {S:Sto}:qpk (.bl b) S=.ok b S:=(rfl)
theorem sum_list:∀ {n:Nat} {g:Nat→Int},(vec n g).sum=sm n g
 | 0,_=>by simp [vec,sm]
 | n+1,g=>by rw[qhl,List.sum_append,sum_list,sm];simp
theorem qoo {n:Nat} {g:Nat→Int} {S:Sto}:biF .sum [.lst (vec n fun i=>.int (g i))] S=.ok (.int (sm n g)) S:=by
 have:(vec n fun i=>D.int (g i))=(vec n g).map D.int:=qom.symm
 rw[this]
 show qct qpo [.lst ((vec n g).map D.int)] S=_
 simp [qct,sum_ints,sum_list]
theorem qvi:∀ {n:Nat} {S:Sto},biF .all [.lst (vec n fun _=>.bl true)] S=.ok (.bl true) S:=by
 intro n S
 have e:∀ n,qa9 (vec n fun _=>D.bl true)=some (List.replicate n true):=fun n=>by
   rw[← qvg]
   induction n with
   | zero=>rfl
   | succ n ih=>rw[List.replicate_succ,qa9,ih];rfl
 show qct qrq [.lst (vec n fun _=>.bl true)] S=_
 simp only [qct,look,qrq,e]
 simp
theorem qp6 {n:Nat} {w:Nat→Int} {x:D} {S:Sto} (hx:qcc n w=x):biF (.list false) [x] S=.ok x S:=by subst hx;rfl
theorem qsk {n:Nat} {w:Nat→Int} {x:D} {S:Sto} (hx:qcc n w=x):biF .len [x] S=.ok (.int n) S:=by subst hx;simp [qcc]
section
variable {S:Sto} {n:Nat} {w c:Nat→Int} {R:Nat→Nat→Int} {t:Nat→Nat→Bool} {P:D→Sto→Prop} {ts:Option (List (Nat × Nat))} {x y z u:D}
theorem qvj {f g:Nat→D}:qer (vec n f) (vec n g)=vec n fun i=>.tup [f i,g i]:=by
 refine List.ext_getElem? fun k=> ?_
 rw[qdi]
 by_cases h:k < n
 · rw[if_pos h,qju (qfl h) (qfl h)]
 · rw[if_neg h,List.getElem?_eq_none_iff]
   have:∀ (xs ys:List D),(qer xs ys).length≤xs.length:=by
     intro xs
     induction xs with
     | nil=>intro ys;simp [qer]
     | cons x xs ih=>intro ys;cases ys <;> simp [qer];exact ih _
   have:=this (vec n f) (vec n g)
   simp at this;omega
end
mutual
noncomputable def D.pln:D→Bool
 | .non=>true
 | .bl _=>true
 | .int _=>true
 | .str _=>true
 | .lst xs=>qhm xs
 | .tup xs=>qhm xs
 | _=>false
noncomputable def qhm:List D→Bool
 | []=>true
 | d::ds=>d.pln && qhm ds
end
mutual
theorem qly:∀ (d:D),d.pln=true→eqD d d=some true
 | .non,_=>rfl
 | .bl b,_=>by simp [eqD,D.flat,eqV]
 | .int i,_=>by simp [eqD,D.flat,eqV]
 | .str x,_=>by simp [eqD,D.flat,eqV]
 | .lst xs,h=>by rw[eqD];simp;exact qfm xs (by rw[D.pln]at h;exact h)
 | .tup xs,h=>by rw[eqD];simp;exact qfm xs (by rw[D.pln]at h;exact h)
 | .ty _,h=>by simp [D.pln]at h
 | .at_ _,h=>by simp [D.pln]at h
 | .ref _,h=>by simp [D.pln]at h
 | .dct _ _,h=>by simp [D.pln]at h
 | .obj _ _ _,h=>by simp [D.pln]at h
theorem qfm:∀ (ds:List D),qhm ds=true→qba ds ds=some true
 | [],_=>by simp [qba]
 | d::ds,h=>by
   rw[qhm,Bool.and_eq_true]at h
   rw[qba,qly d h.1,qfm ds h.2]
   rfl
end
theorem eq_self {d:D} {S:Sto} (h:d.pln=true) (hd:d.dep≤60):qca .Eq d d S=.ok (.bl true) S:=by
 have e0:look d S=d:=by cases d <;> first | rfl | (simp [D.pln]at h)
 show eqM false (look d S) (look d S) S=_
 rw[e0]
 unfold eqM
 rw[qly d h]
 dsimp only
 rw[decide_eq_true hd,Bool.true_and]
 cases d <;> first | rfl | (simp [D.pln]at h;done)
theorem qsl {n:Nat} {g:Nat→D} (h:∀ i < n,(g i).pln=true):qhm (vec n g)=true:=by
 induction n with
 | zero=>rfl
 | succ n ih =>
   rw[qhl]
   have:∀ (xs:List D) (d:D),qhm (xs++[d])=(qhm xs && d.pln):=by
     intro xs d
     induction xs with
     | nil=>simp [qhm]
     | cons x xs ih=>rw[List.cons_append,qhm,ih,qhm,Bool.and_assoc]
   rw[this,ih fun i hi=>h i (by omega),h n (by omega)];rfl
theorem qop {k:Nat}:∀ {ds:List D},(∀ d ∈ ds,d.dep≤k)→qm0 ds≤k
 | [],_=>by simp [qm0]
 | d::ds,h=>by
   rw[qm0]
   have:=h d (by simp)
   have:=qop fun x (hx:x ∈ ds)=>h x (by simp [hx])
   omega
theorem qsm {n:Nat} {w:Nat→Int}:(qcc n w).pln=true:=by unfold qcc;rw[D.pln];exact qsl fun i _=>by simp [D.pln]
theorem qsn {n:Nat} {w:Nat→Int}:(qcc n w).dep≤1:=by
 unfold qcc;rw[D.dep]
 have:=qop (k:=0) (ds:=vec n fun i=>D.int (w i)) fun d hd=>by obtain ⟨i,_,rfl⟩:=qvf hd;simp [D.dep]
 omega
theorem qoq {a b:Bool} {S:Sto}:qca .NotEq (.bl a) (.bl b) S=.ok (.bl (a != b)) S:=by cases a <;> cases b <;> rfl
theorem qso {a b:Bool} {S:Sto}:qca .Eq (.bl a) (.bl b) S=.ok (.bl (a==b)) S:=by cases a <;> cases b <;> rfl
section
variable {S:Sto} {P:D→Sto→Prop} {n:Nat} {t:Nat→Int} {a b:Int} {x y z:D}
noncomputable def Tix (n:Nat) (t:Nat→Int):Prop:=∀ i < n,1≤t i∧t i≤1000
theorem qih {c:Cell} (hc:qfj c) (hn:n≤63) (k:∀ t c' X,Tix n t→qfj c'→P (qcc n t) (c'::(S++X))):Ok (qaw [.ref 0,.int n] (c::S)) P:=by
 refine Ok.run ?_
 unfold qbg
 ((try simp);rw[qd];try simp)
 refine qal hc (by decide) (by decide) fun way c1 h0 h1 hc1=> ?_
 ((try simp);rw[qd];try simp)
 rw[qd]
 simp
 rw[qke (qol hn),qon]
 simp
 refine qcn (fun i Γ S'=>∃ (ns:List Int) (v:Option D) (c2:Cell),Γ=[some (.ref 0),some (.int n),some (.int way),some (.ref (S.length+1)),v]∧S'=c2::(S++[.lst (ns.map D.int)])∧qfj c2∧ns.length=i∧∀ m ∈ ns,1≤m∧m≤1000) ⟨[],_,c1,rfl,rfl,hc1,rfl,by simp⟩ (fun _ _ _ _=>qc8) (fun i d Γ S' e h=> ?_) fun Γ S' h=> ?_
 · obtain ⟨ns,v,c2,rfl,rfl,hc2,hl,hb⟩:=h
   have hi:=(qsg e).1
   generalize d=d'
   have put:∀ (r:Int) (c3:Cell),1≤r→r≤1000→qfj c3→Ok (mtF .append (.ref (S.length+1)) [.int r] (c3::(S++[.lst (ns.map D.int)]))) fun x S1=>∃ (x:List Int) (x_1:Cell),S1=x_1::(S++[Cell.lst (x.map D.int)])∧qfj x_1∧x.length=i+1∧∀ (m:Int),m ∈ x→1≤m∧m≤1000:=fun r c3 r0 r1 hc3=>by
     rw[q0k (xs:=ns.map D.int) (by simp) (by simp;omega)]
     refine⟨ns++[r],c3,by simp,hc3,by simp [hl],fun m hm=> ?_⟩
     rcases List.mem_append.mp hm with z | z
     · exact hb m z
     · rw[List.mem_singleton.mp z];exact⟨r0,r1⟩
   ((try simp);rw[qd];try simp)
   refine qh9 (fun h=> ?_) fun h=> ?_
   · ((try simp);rw[qd];try simp)
     exact qal hc2 (by decide) (by decide) fun r c3 r0 r1 hc3=>put _ c3 (by omega) (by omega) hc3
   · ((try simp);rw[qd];try simp)
     refine qh9 (fun h=> ?_) fun h=> ?_
     · ((try simp);rw[qd];try simp)
       exact qal hc2 (by decide) (by decide) fun r c3 r0 r1 hc3=>put _ c3 (by omega) (by omega) hc3
     · ((try simp);rw[qd];try simp)
       refine qal hc2 (by decide) (by decide) fun r c3 r0 r1 hc3=> ?_
       simp
       rw[qlw (qwm (by decide) (by decide))]
       simp
       refine qal hc3 (by decide) (by decide) fun r' c4 r0' r1' hc4=> ?_
       simp
       rw[qlw (qwm (by decide) (by decide))]
       simp [qkd]
       refine qal hc4 (by decide) (by decide) fun q c5 q0 q1 hc5=> ?_
       obtain ⟨v,e1,v0,v1⟩:∃ v:Int,atI [D.int 1,.int 1000,.int (6 * (1+r)),.int (35 * (1+r'))] q=some (.int v)∧1≤v∧v≤1000:=by
         have:q=0∨q=1∨q=2∨q=3:=by omega
         rcases this with rfl | rfl | rfl | rfl
         · exact⟨1,by simp,by omega,by omega⟩
         · exact⟨1000,by simp,by omega,by omega⟩
         · exact⟨6 * (1+r),by simp,by omega,by omega⟩
         · exact⟨35 * (1+r'),by simp,by omega,by omega⟩
       simp [e1]
       exact put _ c5 v0 v1 hc5
 · obtain ⟨ns,v,c2,rfl,rfl,hc2,hl,hb⟩:=h
   rw[qdh]at hl
   ((try simp);rw[qd];try simp)
   rw[qvd (xs:=ns.map D.int) (by simp) (fun d hd=>by obtain ⟨p,_,rfl⟩:=List.mem_map.mp hd;exact qp5)]
   have e:D.lst (ns.map D.int)=qcc n fun i=>ns.getD i 0:=by unfold qcc;rw[← qom,← hl,← qsi]
   rw[e]
   have:=k (fun i=>ns.getD i 0) c2 [.gone] (fun i hi=>hb _ (by simp [hl,hi])) hc2
   simpa using this
end
@[simp] theorem q36 {d:Nat}:qa3 [qj d] (qd5 d) 0=qbl 2 (qj d):=(rfl)
theorem same_int {m:Nat} {a:Int} {S:Sto} {P:D→Sto→Prop} (k:P (.bl true) S):Ok (qj (m+1) [.int a,.int a] S) P:=by
 unfold qj
 refine Ok.run ?_
 unfold qbf
 have i1:∀ (b:Int) S,biF .isi [.int b,.ty "list"] S=.ok (.bl false) S:=fun _ _=>rfl
 have i2:∀ (b:Int) S,biF .isi [.int b,.ty "tuple"] S=.ok (.bl false) S:=fun _ _=>rfl
 have i5:∀ (b:Int) S,biF .isi [.int b,.ty "str"] S=.ok (.bl false) S:=fun _ _=>rfl
 have i6:∀ (b:Int) S,qca .Is (.int b) .non S=.ok (.bl false) S:=fun _ _=>rfl
 ((try simp);rw[qd];try simp [i1,i2])
 ((try simp);rw[qd];try simp [i6])
 ((try simp);rw[qd];try simp [qoq])
 ((try simp);rw[qd];try simp [i5,qso])
 exact k
end T3
namespace L2
open PySem PySem.Spec PyProof.Rows
section
variable {X:Cx} {pins:List (Addr × Obj)} {σ:List (Option V)} {H H':Hp} {s:Shared} {h':Heap}
theorem Inv.stepN {g':Array GenState} {t':Nat} {d':Drawn} {ch:List Addr} (I:Inv X pins σ H s)
   (hch:∀ b ∈ ch,(b ∈ X.ex∨X.s₀.heap.get? b=none)∧b ≠ X.env.locals∧(∀ x c,X.env.cells.lookup x=some c→c ≠ b)∧∀ p ∈ X.pn++pins,p.1 ≠ b)
   (keep:∀ b o,b ≠ X.env.locals→b ∉ X.fs→b ∉ ch→s.heap.get? b=some o→H b=none→h'.get? b=some o)
   (slot:∀ b o,b ≠ X.env.locals→b ∈ X.fs→b ∉ ch→s.heap.get? b=some o→H b=none→∃ sl,h'.get? b=some { o with slots:=sl }) (free:∀ b o,b ∉ ch→s.heap.get? b=some o→H b=none→H' b=none)
   (there:∀ b o,b ∉ ch→s.heap.get? b=some o→∃ o',h'.get? b=some o')
   (tups:∀ b xs,H b=some (.tup xs)→H' b=some (.tup xs)) (frzs:∀ b o u,H b=some (.frz o u)→H' b=some (.frz o u)) (tbls:∀ b ps,H b=some (.tbl ps)→∃ more,H' b=some (.tbl (ps++more)))
   (ns:∀ m,s.heap.Ns X.env.locals m→h'.Ns X.env.locals m) (hok:HOk X.prog X.w H' h') (hg:AllBare g') :
   Inv X pins σ H' { s with heap:=h',gens:=g',drawn:=d',toks:=t' }:=by
 have neL:∀ b o,X.s₀.heap.get? b=some o→b ≠ X.env.locals:=fun b o e=>Nat.ne_of_lt (Nat.lt_of_lt_of_le (Heap.lt_size e) I.ok.above)
 have neC:∀ b o,X.s₀.heap.get? b=some o→b ∉ X.ex→b ∉ ch:=fun b o e hx hb=>by
   rcases (hch b hb).1 with z | z
   · exact hx z
   · rw[z]at e;cases e
 have cellK:∀ x c,X.env.cells.lookup x=some c→∀ v,s.heap.IsCell c v→h'.IsCell c v:=fun x c e v ⟨o,ho,hd⟩=>by
   have nch:c ∉ ch:=fun z=>(hch c z).2.2.1 x c e rfl
   by_cases hc:c ∈ X.fs
   · obtain ⟨sl,q⟩:=slot c o (I.cne x c e) hc nch ho (I.freeC x c e)
     exact⟨_,q,hd⟩
   · exact⟨o,keep c o (I.cne x c e) hc nch ho (I.freeC x c e),hd⟩
 refine⟨I.ok,I.os,hg,⟨fun b o e n hb hx=> ?_,fun b o e n hb hx=> ?_,fun b o e n hx=> ?_,fun b o e hx=> ?_,fun b xs e=>tups b xs (I.base.tups b xs e),fun b o xs e=>frzs b o xs (I.base.frzs b o xs e),fun b ps e=> ?_⟩,?_,fun x c e=> ?_,?_,fun x c e=> ?_,fun p hp=> ?_,hok,I.len⟩
 · exact keep b o (neL b o e) hb (neC b o e hx) (I.base.keep b o e n hb hx) (I.base.free b o e n hx)
 · obtain ⟨sl,e1⟩:=I.base.slot b o e n hb hx
   obtain ⟨sl',e2⟩:=slot b _ (neL b o e) hb (neC b o e hx) e1 (I.base.free b o e n hx)
   exact⟨sl',e2⟩
 · obtain ⟨o',e1⟩:=I.base.there b o e hx
   exact free b o' (neC b o e hx) e1 (I.base.free b o e n hx)
 · obtain ⟨o',e1⟩:=I.base.there b o e hx
   exact there b o' (neC b o e hx) e1
 · obtain ⟨m1,e1⟩:=I.base.tbls b ps e
   obtain ⟨m2,e2⟩:=tbls b _ e1
   exact⟨m1++m2,by rw[e2,Array.append_assoc]⟩
 · obtain ⟨m,hn,hl⟩:=I.loc
   refine⟨m,ns m hn,fun i x v e1 e2 e3=> ?_⟩
   obtain ⟨u,r,l⟩:=hl i x v e1 e2 e3
   refine⟨u,r,?_⟩
   rcases l with l | ⟨k,c,e,z⟩
   · exact .inl l
   · exact .inr ⟨k,c,e,cellK x c e _ z⟩
 · obtain ⟨v,z⟩:=I.cell x c e
   exact⟨v,cellK x c e v z⟩
 · obtain ⟨m,⟨o,_,_,ho,_⟩,_⟩:=I.loc
   exact free _ o (fun z=>(hch _ z).2.1 rfl) ho I.free
 · obtain ⟨v,o,ho,hd⟩:=I.cell x c e
   exact free c o (fun z=>(hch c z).2.2.1 x c e rfl) ho (I.freeC x c e)
 · obtain ⟨e,n,ne,nf,d⟩:=I.pin p hp
   have nch:p.1 ∉ ch:=fun z=>(hch p.1 z).2.2.2 p hp rfl
   exact⟨keep p.1 p.2 ne nf nch e n,free p.1 p.2 nch e n,ne,nf,d⟩
theorem Inv.callN {g':Array GenState} {t':Nat} {d':Drawn} {ch:List Addr} (I:Inv X pins σ H s) (u:Un (frs X.stack) ch H H' s.heap h') (hok:HOk X.prog X.w H' h') (hg:AllBare g')
   (hch:∀ b ∈ ch,(b ∈ X.ex∨X.s₀.heap.get? b=none)∧b ≠ X.env.locals∧(∀ x c,X.env.cells.lookup x=some c→c ≠ b)∧∀ p ∈ X.pn++pins,p.1 ≠ b) :
   Inv X pins σ H' { s with heap:=h',gens:=g',drawn:=d',toks:=t' }:=by
 obtain ⟨m,⟨o,es,ep,ho,r⟩,_⟩:=id I.loc
 obtain ⟨sl,hL⟩:=u.any ho I.free fun z=>(hch _ z).2.1 rfl
 exact I.stepN (ch:=ch) hch (fun b o hL hb hc e n=>u.keep b o e n (fun z=>(List.mem_cons.mp (I.stkSub b z)).elim hL hb) hc) (fun b o _ _ hc e n=>u.any e n hc) (fun b o hc e n=>u.free b o e n hc) (fun b o hc e=>u.there b o e hc) u.tups u.frzs u.tbls (fun m' hm=>by
   obtain ⟨o',es',ep',ho',r'⟩:=hm
   rw[ho]at ho';cases ho'
   exact⟨_,es',ep',hL,r'⟩) hok hg
theorem Inv.callN' {s':Shared} {ch:List Addr} (I:Inv X pins σ H s) (ho:s'.os=s.os) (u:Un (frs X.stack) ch H H' s.heap s'.heap) (hok:HOk X.prog X.w H' s'.heap) (hg:AllBare s'.gens)
   (hch:∀ b ∈ ch,(b ∈ X.ex∨X.s₀.heap.get? b=none)∧b ≠ X.env.locals∧(∀ x c,X.env.cells.lookup x=some c→c ≠ b)∧∀ p ∈ X.pn++pins,p.1 ≠ b):Inv X pins σ H' s':=by
 obtain ⟨h',g',d',t',o'⟩:=s'
 have e:o'=s.os:=ho
 subst e
 exact I.callN (g':=g') (t':=t') (d':=d') u hok hg hch
end
structure ExcAt (h:Heap) (e T:Addr) (cls a0:Value):Prop where
 ne:T ≠ e
 ex:∃ (oe:Obj) (vs:Array Value) (oT:Obj) (ts:Array Value),h.get? e=some oe∧(oe.cls=cls∧vs[0]? =some a0)∧oe.data=.fields vs∧vs[1]? =some (.ref T)∧h.get? T=some oT∧oT.data=.fields ts∧ts[3]? =some .none
noncomputable def CXe (P:Program) (w:World):CXT:=fun outer H s E x s'=>∃ (e T:Addr) (cls a0:Value) (H':Hp),x=.ref e∧s'.os=s.os∧AllBare s'.gens∧Un (frs outer) [] H H' s.heap s'.heap∧HOk P w H' s'.heap ∧
 s.heap.get? e=none∧s.heap.get? T=none∧H' e=none∧H' T=none∧ExcAt s'.heap e T cls a0∧E cls none H'
section
variable {X:Cx} {pins:List (Addr × Obj)} {σ:St} {H:Hp} {s:Shared}
theorem Inv.apart (I:Inv X pins σ H s) {b:Addr} (hb:s.heap.get? b=none):(b ∈ X.ex∨X.s₀.heap.get? b=none)∧b ≠ X.env.locals∧(∀ x c,X.env.cells.lookup x=some c→c ≠ b)∧∀ p ∈ X.pn++pins,p.1 ≠ b:=by
 refine⟨?_,?_,fun x c e z=> ?_,fun p hp z=> ?_⟩
 · by_cases hx:b ∈ X.ex
   · exact .inl hx
   · refine .inr ?_
     cases q:X.s₀.heap.get? b with
     | none=>rfl
     | some o =>
       obtain ⟨o',e⟩:=I.base.there b o q hx
       rw[hb]at e;cases e
 · rintro rfl
   obtain ⟨m,⟨o,es,ep,ho,_⟩,_⟩:=I.loc
   rw[hb]at ho;cases ho
 · obtain ⟨v,o,ho,_⟩:=I.cell x c e
   rw[z,hb]at ho;cases ho
 · have:=(I.pin p hp).1
   rw[z,hb]at this;cases this
theorem Inv.xhop {h':Heap} {t':Nat} {ch:List Addr} (I:Inv X pins σ H s) (hch:∀ b ∈ ch,((b ∈ X.ex∨X.s₀.heap.get? b=none)∧b ≠ X.env.locals∧(∀ x c,X.env.cells.lookup x=some c→c ≠ b)∧∀ p ∈ X.pn++pins,p.1 ≠ b)∧H b=none)
   (st:(PySem.W.hideAll s.heap (frs X.stack++ch)).StaysIn h') (up:s.heap.UpToSlots h'):Inv X pins σ H { s with heap:=h',toks:=t' }:=by
 have slot:∀ b o,s.heap.get? b=some o→b ∈ frs X.stack→∃ sl,h'.get? b=some { o with slots:=sl }:=fun b o e hb=>by
   obtain ⟨_,o',ho',hd⟩:=I.stack.mem (b:=b) hb
   rw[e]at ho';cases ho'
   exact up b o e hd
 have keep:∀ b o,s.heap.get? b=some o→b ∉ frs X.stack→b ∉ ch→h'.get? b=some o:=fun b o e h1 h2=>st b o (PySem.W.hideAll_get _ e (by simp [h1,h2]))
 refine I.callN (g':=s.gens) (d':=s.drawn) (ch:=ch) ⟨fun b o e _ h1 h2=>keep b o e h1 h2,fun b o e _ h1 _=>slot b o e h1,fun _ _ _ n _=>n,fun b o e h2=> ?_,fun _ _ q=>q,fun _ _ _ q=>q,fun _ ps q=>⟨#[],by rw[q];simp⟩⟩ (fun b u e=> ?_) I.bare (fun b hb=>(hch b hb).1)
 · by_cases h1:b ∈ frs X.stack
   · obtain ⟨sl,q⟩:=slot b o e h1
     exact⟨_,q⟩
   · exact⟨o,keep b o e h1 h2⟩
 · have no:∀ c v,H c=some v→c ∉ frs X.stack∧c ∉ ch:=fun c v q=>⟨fun z=>(by rw[I.stkFree c z]at q;cases q),fun z=>(by rw[(hch c z).2]at q;cases q)⟩
   refine(I.hok b u e).stay (fun c v hc q=> ?_) (fun _ q=>q) fun _ _ q=>q
   rcases hc with rfl | hc
   · exact keep c v q (no c _ e).1 (no c _ e).2
   · exact keep c v q (no c _ hc).1 (no c _ hc).2
theorem qor {h:Heap} {b:Addr} {o:Obj} {as:List Addr} (e:h.get? b=some o) (hb:b ∉ as):(PySem.W.hideAll h as).get? b=some o:=PySem.W.hideAll_get _ e hb
end
section
variable {P:Program} {w:World} {K:PySem.W.Frag} {mg:Str→Option Value} {base:Heap} {N:List Str} {qual:Str} {scope:Scope} {f:Addr} {cd:Value} {A:Around} {outer:List Env} {s₀:Shared} {H₀:Hp} {E:XK} {pins:List (Addr × Obj)} {σ:St} {H:Hp} {s:Shared}
theorem qvk {h':Heap} {e:Addr} {cls a0:Value} (I:Inv (qay (CXe P w) P w K mg base N qual scope f cd A outer s₀ H₀ E) pins σ H s) (h0:s₀.heap.get? e=none) (hH:H e=none) {ch:List Addr} (hch:∀ b ∈ ch,s₀.heap.get? b=none∧H b=none)
   (hL:Heap.LeftW (PySem.W.hideAll s.heap (frs (envOfC qual scope s₀.heap.objs.size f cd::outer)++(e::ch))) (envOfC qual scope s₀.heap.objs.size f cd::outer) e cls a0 s.heap h') (hE:E cls none H) :
   CXe P w outer H₀ s₀ E (.ref e) { s with heap:=h' }:=by
 obtain ⟨st,ff,⟨oe,vs,T,oT,ts,he,hc,hd,h1,hbT,hTe,hT,hdT,h3⟩,up⟩:=hL
 have I0:=I
 have slot:∀ b o,s.heap.get? b=some o→b ∈ frs (envOfC qual scope s₀.heap.objs.size f cd::outer)→∃ sl,h'.get? b=some { o with slots:=sl }:=fun b o q hb=>by
   obtain ⟨_,o',ho',hdd⟩:=I.stack.mem (b:=b) hb
   rw[q]at ho';cases ho'
   exact up b o q hdd
 have keep:∀ b o,s.heap.get? b=some o→b ∉ frs (envOfC qual scope s₀.heap.objs.size f cd::outer)→b ∉ (e::ch)→h'.get? b=some o:=fun b o q z1 z2=>st b o (qor q (by simp only [List.mem_append,not_or];exact⟨z1,z2⟩))
 have nfr:∀ b o,s₀.heap.get? b=some o→b ∉ frs outer→b ∉ frs (envOfC qual scope s₀.heap.objs.size f cd::outer):=fun b o q hb z=>by
   have z':b ∈ s₀.heap.objs.size::frs outer:=z
   rcases List.mem_cons.mp z' with r | r
   · exact absurd (Heap.lt_size q) (by rw[r];exact Nat.lt_irrefl _)
   · exact hb r
 have nch:∀ b o,s₀.heap.get? b=some o→b ∉ (e::ch):=fun b o q z=>by
   rcases List.mem_cons.mp z with r | r
   · rw[r,h0]at q;cases q
   · rw[(hch b r).1]at q;cases q
 have sub:∀ b,b ∈ frs outer→b ∈ frs (envOfC qual scope s₀.heap.objs.size f cd::outer):=fun b z=>List.mem_cons_of_mem (a:=b) (y:=s₀.heap.objs.size) z
 have tnew:s.heap.get? T=none∨T ∈ (e::ch):=by
   cases q:s.heap.get? T with
   | none=>exact .inl rfl
   | some o =>
     by_cases z1:T ∈ frs (envOfC qual scope s₀.heap.objs.size f cd::outer)
     · exfalso
       obtain ⟨_,o',ho',hdd⟩:=I.stack.mem (b:=T) z1
       rw[q]at ho';cases ho'
       obtain ⟨sl,r⟩:=up T o q hdd
       rw[hT]at r;cases r
       exact hdd ts hdT
     · by_cases z2:T ∈ (e::ch)
       · exact .inr z2
       · exfalso
         have:=qor (as:=frs (envOfC qual scope s₀.heap.objs.size f cd::outer)++(e::ch)) q (by simp only [List.mem_append,not_or];exact⟨z1,z2⟩)
         rw[hbT]at this;cases this
 have t0 :s₀.heap.get? T=none∧H T=none:=by
   rcases tnew with z | z
   · refine⟨?_,?_⟩
     · cases q:s₀.heap.get? T with
       | none=>rfl
       | some o =>
         obtain ⟨o',r⟩:=I.base.there T o q (by show T ∉ ([]:List Addr);simp)
         rw[z]at r;cases r
     · cases q:H T with
       | none=>rfl
       | some u =>
         have:=(I.hok T u q).lt
         exfalso
         have hk:=I.hok T u q
         cases u with
         | lst xs=>obtain ⟨_,_,_,_,r⟩:=hk;rw[z]at r;cases r
         | tup xs=>obtain ⟨_,_,_,ob,r,_⟩:=hk;rw[z]at r;cases r
         | dK kvs=>obtain ⟨_,_,_,_,ob,_,_,r,_⟩:=hk;rw[z]at r;cases r
         | dT kvs=>obtain ⟨_,_,_,_,ob,_,_,r,_⟩:=hk;rw[z]at r;cases r
         | set S n=>obtain ⟨ob,_,_,_,r,_⟩:=hk;rw[z]at r;cases r
         | ins C dx fs=>obtain ⟨_,_,_,r,_⟩:=hk;rw[z]at r;cases r
         | own y=>obtain ⟨_,r⟩:=hk;rw[z]at r;cases r
         | xd fs=>obtain ⟨_,⟨_,_,_,r,_⟩,_⟩:=hk;rw[z]at r;cases r
         | rng lo hi=>obtain ⟨_,_,_,r⟩:=hk;rw[z]at r;cases r
         | frz ob u=>obtain ⟨r,_⟩:=hk;rw[z]at r;cases r
         | tbl ps=>rw[show s.heap.get? T=some _ from hk]at z;cases z
         | met f y=>rw[show s.heap.get? T=some _ from hk]at z;cases z
         | ext φ=>obtain ⟨_,⟨_,r⟩,_⟩:=hk;rw[z]at r;cases r
   · rcases List.mem_cons.mp z with r | r
     · exact absurd r hTe
     · exact hch T r
 refine⟨e,T,cls,a0,H,rfl,I.os,I.bare,⟨fun b o q n hb _=> ?_,fun b o q n hb _=> ?_,fun b o q n _=>I.base.free b o q n (by show b ∉ ([]:List Addr);simp),fun b o q _=> ?_,I.base.tups,I.base.frzs,I.base.tbls⟩,fun b u q=> ?_,h0,t0.1,hH,t0.2,⟨hTe,oe,vs,oT,ts,he,hc,hd,h1,hT,hdT,h3⟩,hE⟩
 · exact keep b o (I.base.keep b o q n hb (by show b ∉ ([]:List Addr);simp)) (nfr b o q hb) (nch b o q)
 · obtain ⟨sl,r⟩:=I.base.slot b o q n hb (by show b ∉ ([]:List Addr);simp)
   obtain ⟨sl',r'⟩:=slot b _ r (sub b hb)
   exact⟨sl',r'⟩
 · obtain ⟨o',r⟩:=I.base.there b o q (by show b ∉ ([]:List Addr);simp)
   by_cases z1:b ∈ frs (envOfC qual scope s₀.heap.objs.size f cd::outer)
   · obtain ⟨sl,r'⟩:=slot b _ r z1
     exact⟨_,r'⟩
   · exact⟨o',keep b o' r z1 (nch b o q)⟩
 · have no:∀ c v,H c=some v→c ∉ frs (envOfC qual scope s₀.heap.objs.size f cd::outer)∧c ∉ (e::ch):=fun c v q=>by
     refine⟨fun z=> ?_,fun z=> ?_⟩
     · rw[I.stkFree c z]at q;cases q
     · rcases List.mem_cons.mp z with r | r
       · rw[r,hH]at q;cases q
       · rw[(hch c r).2]at q;cases q
   refine(I.hok b u q).stay (fun c v hc q'=> ?_) (fun _ q=>q) fun _ _ q=>q
   rcases hc with rfl | hc
   · exact keep c v q' (no c _ q).1 (no c _ q).2
   · exact keep c v q' (no c _ hc).1 (no c _ hc).2
end
theorem Fun.okX {P:Program} {w:World} {K:PySem.W.Frag} {mg:Str→Option Value} {base:Heap} {x qual:Str} {st:Stmt} {f:Addr} {fd:FuncData} {N ps:List Str} {k:Nat} {sp:Sp} (F:Fun K x qual st f fd) (S:qaf N ps (qa st)) (len:∀ vs H Q E,sp vs H Q E→vs.length=ps.length)
   (hbody:∀ (cdv:Value) (A:Around) (outer:List Env) (s:Shared) (H:Hp) (vs:List V) (Q:VK) (E:XK),qam k (A.deeper (envOfC qual (qa st) s.heap.objs.size f cdv))→sp vs H Q E →
     ∃ t,PSs (qay (CXe P w) P w K mg base N qual (qa st) f cdv A outer s H E) (qo st) t∧t { nx:=fun _ H'=>Q .non H',rt:=Q } (start N vs) H):qap P w K mg base (CXe P w) (k+1) f fd ps sp:=by
 obtain ⟨oc,od,kV,doc,pm,an,cdv,ct,osl,rfl,lk,hcd⟩:=F.ex
 exact qnv lk hcd S len fun A outer s H vs Q E hr hsp=>hbody cdv A outer s H vs Q E hr hsp
section
variable {prog:Program} {w:World} {A:Around} {hp:Heap} {g:Array GenState} {dr:Drawn} {tk:Nat} {os:OsState}
variable {nm qn:Str} {C N:Addr} {bs bm:List Value} {hdct:Bool} {sn:List Str} {sub:List Value} {ab:Bool} {col:Option Bool} {dd:Option Addr} {k0 k1 k2 k3 k5:Option Value}
structure Above (bm:List Value):Prop where
 ve:bm.contains (.type "ValueError")=true
 be:bm.contains (.type "BaseException")=true
 at_:bm.contains (.type "AttributeError")=false
 na:bm.contains (.type "NameError")=false
noncomputable abbrev qcf (nm qn:Str) (C N:Addr) (bs bm:List Value) (hdct:Bool) (sn:List Str) (sub:List Value) (ab:Bool) (col:Option Bool) (dd:Option Addr) (k0 k1 k2 k3 k5:Option Value):Obj:=excClassObj nm qn C N bs bm hdct sn sub ab col dd k0 k1 k2 k3 k5 "ValueError.__new__"
theorem qsp {R:Result→Shared→Prop} {rest:List Value} (B:Above bm) (hC:hp.get? C=some (qcf nm qn C N bs bm hdct sn sub ab col dd k0 k1 k2 k3 k5)) (hz:rest.length≤sizeLine)
   (k:R (.ok (.ret (.ref (hp.objs.size+1)))) ⟨(hp.push { cls:=.type "tuple",data:=.seq rest.toArray }).push { cls:=.ref C,data:=.fields #[.ref hp.objs.size,.none,.none,.none,.bool false,.none] },g,dr,tk,os⟩) :
   codeAny (model prog w) A (.builtin "ValueError.__new__" ⟨.ref C::rest,[]⟩) R ⟨hp,g,dr,tk,os⟩:=by
 have F:=PySem.F.excBase_ValueError
 have en:=F.ends
 have c1:(Value.ref C::bm).contains (.type "ValueError")=true:=by rw[List.contains_cons,B.ve,Bool.or_true]
 have c2:(Value.ref C::bm).contains (.type "AttributeError")=false:=by rw[List.contains_cons,B.at_];rfl
 have c3:(Value.ref C::bm).contains (.type "NameError")=false:=by rw[List.contains_cons,B.na];rfl
 refine codeAny_builtinAt F.entry ?_
 unfold Builtin.«BaseException.__new__»
 refine PySem.wpAt_bind ?_
 show PySem.wpAt _ _ _ (stack >>= _) _ _ _
 refine PySem.wpAt_bind (PySem.wpAt_stack fun p below=>PySem.wpAt_of_wpAny ?_)
 wp_walk
 refine PySem.wpAt_of_wpAny ?_
 rw[F.owner]
 repeat (first
   | with_reducible refine wpAny_madeHere_exc F.canon hC ?_
   | with_reducible refine wpAny_loadPart_at hC ?_
   | (with_reducible refine wpAny_isSubtype_exc hC ?_;first | rw[c1] | rw[c2] | rw[c3])
   | wp_step)
 show R _ _
 rw[Heap.size_push]
 exact k
theorem qhn {E:Value→Shared→Prop} {Q:PySem.Fin→Shared→Prop} {rest:List Value} {mN:Str→Option Value} {fI:Addr} {oI:Obj} (B:Above bm) (hC:hp.get? C=some (qcf nm qn C N bs bm hdct sn sub ab col dd k0 k1 k2 k3 k5)) (hz:rest.length≤sizeLine)
   (hN:hp.Ns N mN) (hI:mN "__init__"=some (.ref fI)) (hf:hp.get? fI=some oI) (hfc:oI.cls=.type "function")
   (k:∀ h' e,hp.objs.size≤e→Heap.MadeExcOf hp h' e (.ref C) rest→wpAny (model prog w) A (call (.ref fI) (.ref e::rest)) (fun r s'=>r=.none∧Q (.done (.ret (.ref e))) s') E ⟨h',g,dr,tk,os⟩) :
   wpAny (model prog w) A (Builtin.«type.__call__» ⟨.ref C::rest,[]⟩) Q E ⟨hp,g,dr,tk,os⟩:=by
 have F:=PySem.F.excBase_ValueError
 have T:OwnTail hp bm bm:=.base
 repeat (first
   | with_reducible refine wpAny_loadPart_at hC ?_
   | with_reducible refine wpAny_madeBy_exc hC ?_
   | wp_step)
 refine codeAny_call_builtin_code (Code.quiet_builtin _ F.quiet) (wpAny_check_new_subU F B.ve T hC ?_)
 refine qsp B hC hz ?_
 show wpAny _ _ _ _ _ _
 generalize ht0:({ cls:=.type "tuple",data:=.seq rest.toArray }:Obj)=ot
 generalize he0:({ cls:=.ref C,data:=.fields #[.ref hp.objs.size,.none,.none,.none,.bool false,.none] }:Obj)=oe
 have keep:∀ b o,hp.get? b=some o→((hp.push ot).push oe).get? b=some o:=fun b o q=>Heap.get?_push_of_some _ (Heap.get?_push_of_some _ q)
 have hC2:=keep _ _ hC
 have hf2:=keep _ _ hf
 have hN2:((hp.push ot).push oe).Ns N mN:=hN.keeps keep
 have hat:((hp.push ot).push oe).get? (hp.objs.size+1)=some oe:=by
   have:=Heap.get?_push_size (hp.push ot) (o:=oe) (by subst he0;rfl)
   rw[Heap.size_push]at this
   exact this
 have hcl:oe.cls=.ref C:=by subst he0;rfl
 have cC:(Value.ref C::bm).contains (.ref C)=true:=by simp
 have sz:(hp.push ot).objs.size=hp.objs.size+1:=Heap.size_push ..
 unfold isInstance
 repeat (first
   | (with_reducible refine wpAny_loadPart_at hat ?_;rw[hcl])
   | (with_reducible refine wpAny_isSubtype_exc hC2 ?_;rw[cC])
   | wp_step)
 show wpAny _ _ (typeLookup (.ref C) _) _ _ _
 rw[typeLookup_eq]
 refine wpAny_bind (wpAny_mroOf_exc hC2 ?_)
 rw[lookupAlong_cons]
 refine wpAny_bind (wpAny_classOwn_exc hC2 hN2 ?_)
 rw[hI]
 refine wpAny_pure (wpAny_holding (wpAny_bind ?_))
 unfold bindSpecial
 refine wpAny_bind (wpAny_typeOf (T:="function") ⟨_,hf2,hfc⟩ ?_)
 rw[if_pos (by decide)]
 refine wpAny_pure (wpAny_bind (wpAny_mono (k _ (hp.objs.size+1) (Nat.le_succ _) ⟨keep,Heap.get?_none_of_le (Nat.le_succ _),hp.objs.size,by subst he0;exact hat,Heap.get?_none_of_le (Nat.le_refl _),?_⟩) (fun r s' hr=> ?_) fun _ _ x=>x))
 · subst ht0
   exact Heap.get?_push_of_some _ (Heap.get?_push_size hp rfl)
 · obtain ⟨rfl,hQ⟩:=hr
   wp_walk
   exact hQ
theorem qp7 {E:Value→Shared→Prop} {Q:Value→Shared→Prop} {rest:List Value} {mN:Str→Option Value} {fI:Addr} {oI:Obj} (B:Above bm) (hC:hp.get? C=some (qcf nm qn C N bs bm hdct sn sub ab col dd k0 k1 k2 k3 k5)) (hz:rest.length≤sizeLine)
   (hN:hp.Ns N mN) (hI:mN "__init__"=some (.ref fI)) (hf:hp.get? fI=some oI) (hfc:oI.cls=.type "function")
   (k:∀ h' e,hp.objs.size≤e→Heap.MadeExcOf hp h' e (.ref C) rest→wpAny (model prog w) (A.under (.builtin "type.__call__" ⟨.ref C::rest,[]⟩)) (call (.ref fI) (.ref e::rest)) (fun r s'=>r=.none∧Q (.ref e) s') E ⟨h',g,dr,tk,os⟩) :
   wpAny (model prog w) A (call (.ref C) rest) Q E ⟨hp,g,dr,tk,os⟩:=by
 have l1:=tc_lookup
 have l2:=tc_bind (.ref C)
 have ty:(⟨hp,g,dr,tk,os⟩:Shared).TypeIs (.ref C) "type":=⟨_,hC,rfl⟩
 refine wpAny_call (codeAny_of_tree ?_)
 show wpAny _ _ (callAny (.ref C) _) _ _ _
 repeat (any_goals (first
   | assumption
   | with_reducible refine wpAny_loadPart_at hC ?_
   | wp_step))
 refine⟨rfl,?_⟩
 refine codeAny_call_builtin_at (Code.quiet_builtin _ (by decide +kernel)) entry_typeCall ?_
 refine wpAny_check_type_call_sub hC ?_
 exact qhn B hC hz hN hI hf hfc k
end
noncomputable def exO (C e:Addr) (bare:Bool):HO:=.ext fun h=>∃ (o:Obj) (vs:Array Value) (t:Addr),h.get? e=some o∧o.cls=.ref C∧o.data=.fields vs∧vs.size=6∧vs[0]? =some (.ref t)∧vs[1]? =some .none∧(bare=true→o.dict=none)
theorem qnh {P:Program} {w:World} {H:Hp} {h:Heap} {C e:Addr} {b:Bool} {o:Obj} {vs:Array Value} {t:Addr} (h1:h.get? e=some o) (h2:o.cls=.ref C) (h3:o.data=.fields vs) (h4:vs.size=6) (h5:vs[0]? =some (.ref t)) (h6:vs[1]? =some .none) (h7:b=true→o.dict=none):qw P w H h e (exO C e b) :=
 ⟨⟨o,vs,t,h1,h2,h3,h4,h5,h6,h7⟩,⟨o,h1⟩,fun a c ⟨o',vs',t',q1,q2⟩ k=>⟨o',vs',t',k o' q1,q2⟩⟩
theorem qkf {P:Program} {w:World} {H:Hp} {h:Heap} {C e:Addr} {b:Bool} (x:qw P w H h e (exO C e b)):∃ (o:Obj) (vs:Array Value) (t:Addr),h.get? e=some o∧o.cls=.ref C∧o.data=.fields vs∧vs.size=6∧vs[0]? =some (.ref t)∧vs[1]? =some .none∧(b=true→o.dict=none):=x.1
structure qdn (K:PySem.W.Frag) (C f:Addr):Prop where
 obj:∀ h:Heap,K.In h→∃ nm qn N bs bm hdct sn sub ab col dd k0 k1 k2 k3 k5 mN,h.get? C=some (qcf nm qn C N bs bm hdct sn sub ab col dd k0 k1 k2 k3 k5)∧Above bm∧h.Ns N mN∧mN "__init__"=some (.ref f)
 fn:∀ h:Heap,K.In h→∃ o,h.get? f=some o∧o.cls=.type "function"
 kp:PySem.W.keepIn K (.ref C)=true
section
variable {X:Cx} {CX:CXT} {k:Nat} {f C:Addr} {fd:FuncData} {ps:List Str} {sp:Sp} {dvs:List V} {ds:List Value} {E:XK} {x:Str} {p pos:Pos} {e:Expr} {es:List Expr} {t:TA}
noncomputable def q3o (h₀:Heap) (C:Addr) (sp:Sp) (dvs:List V) (E:XK) (t:TA):TE:=fun σ H Q=>t σ H fun vs H1=>vs.length≤sizeLine∧∀ a,H1 a=none→h₀.get? a=none→sp (.ref a::(vs++dvs)) (upd H1 a (exO C a true)) (fun v H2=>v=.non∧Q (.ref a) H2) E
theorem qvl {pins:List (Addr × Obj)} {σ:St} {H:Hp} {s:Shared} {Q:VK} {us:List Value} {vs:List V} (M:qdn X.K C f) (F:qap X.prog X.w X.K X.mg X.base CX k f fd ps sp) (hr:qam (k+1) X.A) (hb:Binds X.K fd ps ds) (hd:Vals dvs ds)
   (hx:Passes CX X E) (I:Inv X pins σ H s) (r:Vals vs us) (hz:vs.length≤sizeLine) (hex:X.ex=[])
   (h:∀ a,H a=none→X.s₀.heap.get? a=none→sp (.ref a::(vs++dvs)) (upd H a (exO C a true)) (fun v H2=>v=.non∧Q (.ref a) H2) E) :
   wpAny (model X.prog X.w) X.A (call (.ref C) us) (EP X pins σ Q) X.xe s:=by
 obtain ⟨nm,qn,N,bs,bm,hdct,sn,sub,ab,col,dd,k0,k1,k2,k3,k5,mN,hC,hB,hN,hI⟩:=M.obj _ I.kIn
 obtain ⟨oI,hf,hfc⟩:=M.fn _ I.kIn
 obtain ⟨hh,g,d,tk,os⟩:=s
 refine qp7 hB hC (by rw[← r.length];exact hz) hN hI hf hfc fun h' a ha mx=> ?_
 have hfr:H a=none:=I.hok.fresh ha
 have h00:X.s₀.heap.get? a=none:=by
   cases q:X.s₀.heap.get? a with
   | none=>rfl
   | some o =>
     obtain ⟨o',q'⟩:=I.base.there a o q (by rw[hex];simp)
     exact absurd (Heap.lt_size q') (Nat.not_lt.mpr ha)
 have hq:=h a hfr h00
 obtain ⟨t0,he,ht,htt⟩:=mx.there
 have I2:Inv X pins σ (upd H a (exO C a true)) { heap:=h',gens:=g,drawn:=d,toks:=tk,os:=os }:=I.laid (t':=tk) mx.keeps ha (qnh he rfl rfl rfl rfl rfl fun _=>rfl)
 have r2:Vals (V.ref a::(vs++dvs)) (Value.ref a::(us++ds)):=.cons rfl (r.append hd)
 have hl:(Value.ref a::us++ds).length=ps.length:=by
   have e:=r2.length
   rw[F.len _ _ _ _ hq]at e
   exact e.symm
 refine wpAny_call (codeAny_mono (F.run _ X.stack _ _ ⟨Value.ref a::us,[]⟩ (Value.ref a::(us++ds)) _ _ E (hr.make C us []) (I2.env0.make C us []) (hb _ (Value.ref a::us) I2.kIn hl) r2 hq) fun r s' hq'=> ?_)
 cases r with
 | error e=>exact hx pins σ _ _ e s' I2 hq'
 | ok fl =>
   cases fl <;> first | exact False.elim hq' | skip
   obtain ⟨v,H',I3,rv,ev,q3⟩:=I2.after hq'
   subst ev
   exact⟨rv,⟨V.ref a,H',I3,rfl,q3⟩⟩
theorem q0l (M:qdn X.K C f) (F:qap X.prog X.w X.K X.mg X.base CX k f fd ps sp) (hr:qam (k+1) X.A) (hg:Gl X x) (hm:X.mg x=some (.ref C)) (hb:Binds X.K fd ps ds) (hd:Vals dvs ds) (hx:Passes CX X E)
   (ha:PA X (e::es) t) (hdb:(x==("__debug__":Str))=false) (he:starEach (e::es) X.env=(false,eval e X.env)::starEach es X.env) (hpl:(backTo pos (starEach es X.env)).any (·.1)=false) (hex:X.ex=[]) :
   PE X (.Call (.Name x p) (e::es) [] pos) (q3o X.s₀.heap C sp dvs E t):=by
 intro pins s σ H Q I h
 refine wpAny_Call_Name_kw (qbi I hg hm ?_ hdb)
 refine PySem.W.callWith_K (h₀:=X.base) I.ok.mod.kin M.kp (thn (ha pos pins s σ H _ I h) fun us s1 ⟨vs,H1,I1,r,z,q⟩=>⟨I1.kIn,?_⟩) he hpl
 exact qvl M F hr hb hd hx I1 r z hex q
end
structure qsq (K:PySem.W.Frag) (C:Addr) (name:Str) (f:Addr):Prop where
 sp:PySem.W.specialIn K (.ref C) "__getattribute__"=some (some (.builtin "type.__getattribute__"))
 rd:PySem.W.readsIn K C (.type "type")=true
 fd:PySem.W.findCls K (.ref C) (.type "type") name=some (.val (.ref f))
 hd:PySem.W.handedIn (.ref f)=true
 kp:PySem.W.keepIn K (.ref f)=true
section
variable {X:Cx} {CX:CXT} {k:Nat} {f C:Addr} {fd:FuncData} {ps:List Str} {sp:Sp} {dvs:List V} {ds:List Value} {E:XK} {x m:Str} {p pos apos:Pos} {e:Expr} {es:List Expr} {t:TA}
theorem qsr {pl:Sem Bool} (M:qsq X.K C m f) (F:qap X.prog X.w X.K X.mg X.base CX k f fd ps sp) (hr:qam k X.A) (hg:Gl X x) (hm:X.mg x=some (.ref C)) (hb:Binds X.K fd ps ds) (hd:Vals dvs ds) (hx:Passes CX X E)
   (ha:PA X (e::es) t) (hdb:(x==("__debug__":Str))=false) (he:starEach (e::es) X.env=(false,eval e X.env)::starEach es X.env) (hpl:(backTo pos (starEach es X.env)).any (·.1)=false)
   (ht:eval (.Call (.Attribute (.Name x p) m apos) (e::es) [] pos) X.env=(do
     let ov ← eval (.Name x p) X.env
     standAt apos.atName
     let (f,first) ← holding [ov] (getMethod ov m pl)
     callWith pos f first (backTo pos (starEach (e::es) X.env)) (backToKw pos (keywordEach [] X.env))):=by rfl) :
   PE X (.Call (.Attribute (.Name x p) m apos) (e::es) [] pos) (qnt sp dvs E t):=by
 intro pins s σ H Q I h
 refine PySem.W.methodCall_KW (pl:=pl) (qbi I hg hm ?_ hdb) ht
 refine PySem.W.method_cls I.kIn M.sp (PySem.W.cls_value I.kIn M.rd M.fd M.hd ?_)
 have I0:=I.tok (s.toks+1)
 refine PySem.W.callWith_K (first:=[]) (h₀:=X.base) I.ok.mod.kin M.kp (thn (ha pos pins _ σ H _ I0 h) fun us s2 ⟨vs,H2,I2,r,q2⟩=>⟨I2.kIn,?_⟩) he hpl
 exact qms (us:=us) (vs:=vs) F hr hb hd hx I2 r q2
end
section
variable {prog:Program} {w:World} {A:Around} {E:Value→Shared→Prop} {s:Shared} {K:PySem.W.Frag}
theorem qss (K:PySem.W.Frag):PySem.W.findCls K (.type "ValueError") (.type "type") "__init__"=some (.val (.builtin "ValueError.__init__")):=by rfl
theorem qvm {expr:Bool} {Q:Value→Shared→Prop} (X:K.In s.heap) (h:Q (.builtin "ValueError.__init__") { s with toks:=s.toks+1 }):wpAny (model prog w) A (getAttr (.type "ValueError") "__init__" expr) Q E s:=by
 have a1:opaqueClassAbove (.type "ValueError")=pure none:=by unfold opaqueClassAbove;dsimp only;rw[show Manifest.isStub "ValueError"=false by decide +kernel];rfl
 have a2:PySem.W.Looks (model prog w) s.heap (typeOf (.type "ValueError")) (.type "type"):=PySem.W.Looks.of_pure (PySem.W.kitMeta_of (by decide +kernel))
 refine PySem.W.cls_open X (PySem.W.Looks.of_pure a1) a2 PySem.W.type_tga (PySem.W.looks_hook X (r:=none) (by rfl)) (by show PySem.W.subIn K _ _=_;rfl) (qss K) ?_
 exact wpAny_pure (PySem.W.handed_on rfl h)
theorem qni (X:K.In s.heap):PySem.W.Looks (model prog w) s.heap (specialOf (.type "ValueError") "__getattribute__") (some (.builtin "type.__getattribute__")) :=
 (PySem.W.Looks.of_pure (PySem.W.kitMeta_of (by decide +kernel))).andThen (PySem.W.looks_findIn X PySem.W.type_tga)
theorem qp8 {pl:Sem Bool} {Q:Value × List Value→Shared→Prop} (X:K.In s.heap) (h:Q (.builtin "ValueError.__init__",[]) { s with toks:=s.toks+1 }):wpAny (model prog w) A (getMethod (.type "ValueError") "__init__" pl) Q E s:=by
 unfold getMethod
 refine wpAny_bind ((qni X).here ?_)
 dsimp only
 rw[if_pos PySem.W.canon_tga]
 refine wpAny_bind (wpAny_mono (qvm (Q:=fun v=>Q (v,[])) X h) (fun _ _ z=>wpAny_pure z) fun _ _ z=>z)
variable {hp:Heap} {g:Array GenState} {dr:Drawn} {tk:Nat} {os:OsState}
variable {nm qn:Str} {C N:Addr} {bs bm:List Value} {hdct:Bool} {sn:List Str} {sub:List Value} {ab:Bool} {col:Option Bool} {dd:Option Addr} {k0 k1 k2 k3 k5:Option Value}
theorem qst {M:Model} {a:Addr} {oe:Obj} {rest:List Value} {Q:Unit→Shared→Prop} (B:Above bm) (hC:hp.get? C=some (qcf nm qn C N bs bm hdct sn sub ab col dd k0 k1 k2 k3 k5)) (he:hp.get? a=some oe) (hcl:oe.cls=.ref C)
   (k:Q () ⟨hp,g,dr,tk,os⟩):wpAny M A (checkBuiltinCall "ValueError.__init__" ⟨.ref a::rest,[]⟩) Q E ⟨hp,g,dr,tk,os⟩:=by
 have F:=PySem.F.excBase_ValueError
 have c1:(Value.ref C::bm).contains (.type "ValueError")=true:=by rw[List.contains_cons,B.ve,Bool.or_true]
 have st:=F.noStar
 simp only [checkBuiltinCall,F.initKind,F.initSplit,F.initRow]
 repeat (first
   | (with_reducible refine wpAny_loadPart_at he ?_;rw[hcl])
   | with_reducible refine wpAny_loadPart_at hC ?_
   | (with_reducible refine wpAny_isSubtype_exc hC ?_;rw[c1])
   | wp_step)
 refine wpAny_onRaise ?_
 have cs:∀ (u v:String) (n:Nat),Bind.check ⟨.positional,"*","ValueError",.self,[⟨"args",.varPos,false⟩]⟩ u v n []=pure ():=fun u v n=>check_star_args _ _ _ _ _ _
 simp only [List.map_nil]
 rw[cs]
 exact wpAny_pure k
theorem qvn {a:Addr} {oe:Obj} {vs:Array Value} {rest:List Value} {Q:Value→Shared→Prop} (B:Above bm) (hC:hp.get? C=some (qcf nm qn C N bs bm hdct sn sub ab col dd k0 k1 k2 k3 k5)) (he:hp.get? a=some oe) (hcl:oe.cls=.ref C) (hd:oe.data=.fields vs) (h0:∃ u,vs[0]? =some u) (hz:rest.length≤sizeLine)
   (k:Q .none ⟨(hp.push { cls:=.type "tuple",data:=.seq rest.toArray }).update a (Obj.mapFields (·.setIfInBounds 0 (.ref hp.objs.size))),g,dr,tk,os⟩) :
   wpAny (model prog w) A (call (.builtin "ValueError.__init__") (.ref a::rest)) Q E ⟨hp,g,dr,tk,os⟩:=by
 have F:=PySem.F.excBase_ValueError
 refine wpAny_call (codeAny_call_builtin F.init.plain F.initEntry (qst B hC he hcl ?_))
 unfold Builtin.«BaseException.__init__»
 wp_walk
 obtain ⟨u,h0⟩:=h0
 rw[hd]
 refine wpAny_pure ?_
 dsimp only
 rw[h0]
 refine wpAny_pure ?_
 have ne:a ≠ hp.objs.size:=Nat.ne_of_lt (Heap.lt_size he)
 refine wpAny_bind (wpAny_setField (Heap.get?_push_of_some _ he) hd (Array.getElem?_eq_some_iff.mp h0).1 ?_)
 have go:∀ (v:Value) (Q:Unit→Shared→Prop) (E:Value→Shared→Prop) (s:Shared),Q () s→wpAny (model prog w) A.in1 (match v with | .ref a=>letGo [v] | _=>pure ()) Q E s:=fun v Q E s h=>by
   cases v <;> first | exact wpAny_pure h | exact wpAny_letGo h
 refine go u _ _ _ ?_
 exact wpAny_pure k
end
structure qco (K:PySem.W.Frag) (C:Addr) (name:Str):Prop where
 sa:PySem.W.findIn K (.ref C) "__setattr__"=some (some (.builtin "object.__setattr__"))
 cd:∃ cd,PySem.W.clsIn K C=some cd∧cd.hasDict=true∧cd.mro.isEmpty=false∧cd.mro.contains (.type "object")=true∧∀ self:Value,refuseLoop self "__setattr__" cd.mro=pure ()
 tk:PySem.W.takerIn K C name=some none
section
variable {prog:Program} {w:World} {A:Around} {E:Value→Shared→Prop} {K:PySem.W.Frag} {C x:Addr} {hp:Heap} {g:Array GenState} {dr:Drawn} {t:Nat} {os:OsState} {o:Obj} {name:Str} {v:Value}
theorem qvo {R:Result→Shared→Prop} {s:Shared} {tk:Tok} (X:K.In s.heap) (S:qco K C name) (I:PySem.W.InstAt s.heap x o C none)
   (k:∀ b,wpAny (model prog w) A.in1 (Builtin.ObjectAttr.storeInOwnDict (.ref x) (.ref C) (.str name tk) name v b) (fun fin s'=>match fin with | .done f=>R (.ok f) s' | .again c'=>c'.quiet=true∧codeAny (model prog w) A c' R s') (fun e s'=>R (.error e) s') s) :
   codeAny (model prog w) A (.call (.builtin "object.__setattr__") ⟨[.ref x,.str name tk,v],[]⟩) R s:=by
 have SF:=PySem.F.store_ValueError
 obtain ⟨cd,hcd,h1,h2,h3,h4⟩:=S.cd
 have sub:PySem.W.Looks (model prog w) s.heap (isInstance (.ref x) (.type "object")) true:=I.type.andThen (PySem.W.looks_mroIn X (by unfold PySem.W.mroIn;rw[hcd,Option.bind_some,if_neg (by rw[h2];decide),h3]))
 refine codeAny_call_builtin SF.slot.plain SF.entry (@PySem.W.check_slot (model prog w) _ _ s "object.__setattr__" "object" "__setattr__" (.ref x) [.str name tk,v] [] _ SF.kind SF.split sub (SF.args (.ref x) (.str name tk) v) ?_)
 obtain ⟨attr,ha,hr⟩:=Option.bind_eq_some_iff.mp S.tk
 have hm:PySem.W.Looks (model prog w) s.heap (mroOf (.ref C)) cd.mro:=(PySem.W.looks_clsIn X hcd).andThen .now
 have L3:PySem.W.Looks (model prog w) s.heap (Builtin.ObjectAttr.storeTaker? attr) none:=by
   cases attr with
   | none=>exact .now
   | some a =>
     obtain ⟨b,hb,hr⟩:=Option.map_eq_some_iff.mp hr
     cases b with
     | true=>cases hr
     | false=>exact(PySem.W.looks_takesIn X hb).andThen .now
 rw[PySem.W.osa_eq,refuse_eq]
 refine wpAny_bind (wpAny_bind (I.type.here (wpAny_bind (hm.here ?_))))
 rw[h4]
 refine wpAny_pure (wpAny_bind (I.type.here (wpAny_bind ((PySem.W.looks_findIn X ha).here (wpAny_bind (L3.here ?_))))))
 exact k _
open Builtin.ObjectAttr in
theorem qvp {Q:PySem.Fin→Shared→Prop} {tk:Tok} {b:Bool} (X:K.In hp) (S:qco K C name) (hx:hp.get? x=some o) (hc:o.cls=.ref C) (hn:∀ c,o.data ≠ .cls c) (hd:o.dict=none)
   (k:∀ h' tk' d,hp.get? d=none→h'.get? x=some { o with dict:=some d }→(∀ b u,b ≠ x→hp.get? b=some u→h'.get? b=some u)→Q (.done (.ret .none)) ⟨h',g,dr,tk',os⟩) :
   wpAny (model prog w) A (storeInOwnDict (.ref x) (.ref C) (.str name tk) name v b) Q E ⟨hp,g,dr,t,os⟩:=by
 obtain ⟨cd,hcd,h1,h2,h3,h4⟩:=S.cd
 have L:=PySem.W.looks_clsIn (M:=model prog w) X hcd
 unfold storeInOwnDict
 refine wpAny_bind (wpAny_pure (wpAny_bind ?_))
 unfold ownDictForStores instanceDict
 refine wpAny_bind (wpAny_loadPart hx ?_)
 rw[hc]
 refine wpAny_bind (L.here ?_)
 rw[h1,hd]
 simp only [Bool.not_true,Bool.false_eq_true,if_false,Bool.false_or,typeHasDict]
 have at1:(hp.push { cls:=.type "dict",data:=.dict #[] }).get? x=some o:=Heap.get?_push_of_some _ hx
 have ne:x ≠ hp.objs.size:=Nat.ne_of_lt (Heap.lt_size hx)
 have fr:=(Heap.get?_some_iff.mp hx).2
 refine wpAny_bind (wpAny_alloc' ?_)
 refine wpAny_bind (wpAny_update' at1 ?_)
 refine wpAny_pure ?_
 have n0:((hp.push { cls:=.type "dict",data:=.dict #[] }).update x fun o=>{ o with dict:=some hp.objs.size }).Ns hp.objs.size (fun _=>none):=by
   refine⟨{ cls:=.type "dict",data:=.dict #[] },#[],_,?_,rfl,fun e he=>absurd he (by simp),fun _=>rfl⟩
   rw[Heap.get?_update_ne _ _ _ _ (Ne.symm ne)]
   exact Heap.get?_push_size hp rfl
 have x0:((hp.push { cls:=.type "dict",data:=.dict #[] }).update x fun o=>{ o with dict:=some hp.objs.size }).get? x=some { o with dict:=some hp.objs.size }:=by
   refine Heap.get?_update_self _ at1 ?_
   obtain ⟨oc,od,odt,osl⟩:=o
   cases odt <;> first | rfl | exact fr
 have k0:∀ b u,b ≠ x→hp.get? b=some u→((hp.push { cls:=.type "dict",data:=.dict #[] }).update x fun o=>{ o with dict:=some hp.objs.size }).get? b=some u:=fun b u hb q=>by
   rw[Heap.get?_update_ne _ _ _ _ hb]
   exact Heap.get?_push_of_some _ q
 generalize (hp.push { cls:=.type "dict",data:=.dict #[] }).update x (fun o=>{ o with dict:=some hp.objs.size })=h2' at *
 show wpAny _ _ (storeInDict hp.objs.size (.str name tk) name v) _ _ _
 unfold storeInDict newKeyGuard
 refine wpAny_bind (wpAny_pure (wpAny_bind (wpAny_nsSet1 (Heap.Ns1.of_empty n0) fun h3 hn3 hs3=> ?_)))
 obtain ⟨oD,esD,epD,hoD,hdD,hcD⟩:=hn3.count (Within.cons name v Within.nil)
 refine wpAny_bind (wpAny_lookBehind hoD (by rw[hdD];exact pastItsLine_dict (Nat.le_trans hcD (by rw[List.length_cons,List.length_nil,sizeLine_eq];omega))) ?_)
 wp_walk
 refine k h3 _ hp.objs.size (Heap.get?_none_of_le (Nat.le_refl _)) ((hs3.2 x ne).trans x0) fun b u hb q=> ?_
 exact(hs3.2 b (Nat.ne_of_lt (Heap.lt_size q))).trans (k0 b u hb q)
theorem qvq {Q:Unit→Shared→Prop} (X:K.In hp) (S:qco K C name) (hx:hp.get? x=some o) (hc:o.cls=.ref C) (hn:∀ c,o.data ≠ .cls c) (hd:o.dict=none)
   (k:∀ h' tk' d,hp.get? d=none→h'.get? x=some { o with dict:=some d }→(∀ b u,b ≠ x→hp.get? b=some u→h'.get? b=some u)→Q () ⟨h',g,dr,tk',os⟩) :
   wpAny (model prog w) A (setAttr (.ref x) name v) Q E ⟨hp,g,dr,t,os⟩:=by
 have I:PySem.W.InstAt hp x o C none:=⟨hx,hc,by unfold PySem.W.notCls;cases q:o.data <;> first | rfl | exact absurd q (hn _),by rw[hd];trivial⟩
 refine PySem.W.set_plain (s:=⟨hp,g,dr,t,os⟩) X I S.sa ?_
 exact qvo (s:=⟨hp,g,dr,t+1,os⟩) X S I fun b=>qvp X S hx hc hn hd fun h' tk' d h1 h2 h3=>k h' tk' d h1 h2 h3
end
theorem qwn:bootBuiltins "ValueError"=some (.type "ValueError"):=by decide +kernel
section
variable {X:Cx} {C f:Addr} {p pos apos:Pos} {e o value:Expr} {es:List Expr} {t:TA} {ta tv:TE} {name:Str}
noncomputable def tVe (K:PySem.W.Frag) (t:TA):TE:=fun σ H Q=>t σ H fun vs H1=>∃ a us C f b,vs=.ref a::us∧us.length≤100∧qdn K C f∧H1 a=some (exO C a b)∧Q .non (upd H1 a (exO C a b))
theorem q3p {pl:Sem Bool} (hg:Gl X "ValueError") (hm:X.mg "ValueError"=none) (ha:PA X (e::es) t) (he:starEach (e::es) X.env=(false,eval e X.env)::starEach es X.env) (hpl:(backTo pos (starEach es X.env)).any (·.1)=false)
   (ht:eval (.Call (.Attribute (.Name "ValueError" p) "__init__" apos) (e::es) [] pos) X.env=(do
     let ov ← eval (.Name "ValueError" p) X.env
     standAt apos.atName
     let (f,first) ← holding [ov] (getMethod ov "__init__" pl)
     callWith pos f first (backTo pos (starEach (e::es) X.env)) (backToKw pos (keywordEach [] X.env))):=by rfl) :
   PE X (.Call (.Attribute (.Name "ValueError" p) "__init__" apos) (e::es) [] pos) (tVe X.K t):=by
 intro pins s σ H Q I h
 refine PySem.W.methodCall_KW (pl:=pl) (qcu I hg hm qwn ?_) ht
 refine qp8 I.kIn ?_
 have I0:=I.tok (s.toks+1)
 refine PyProof.Rows.callWith_builtin1 (thn (ha pos pins _ σ H _ I0 h) fun us s2 ⟨vs,H2,I2,r,a,ws,C,f,b,ev,hl,M,hH,q⟩=> ?_) he hpl
 subst ev
 obtain ⟨u1,us,rfl,r1,r2⟩:∃ u1 us',us=u1::us'∧RelV (.ref a) u1∧Vals ws us':=by cases r with | cons r1 r2=>exact⟨_,_,rfl,r1,r2⟩
 obtain rfl:u1=Value.ref a:=r1
 · skip
   obtain ⟨nm,qn,N,bs,bm,hdct,sn,sub,ab,col,dd,k0,k1,k2,k3,k5,mN,hC,hB,hN,hI⟩:=M.obj _ I2.kIn
   obtain ⟨ob,vs,t0,h1,h2,h3,h4,h5,h6,h7⟩:=qkf (I2.hok _ _ hH)
   obtain ⟨hp,g,d,tk,os⟩:=s2
   have hz:us.length≤sizeLine:=by rw[← r2.length];exact Nat.le_trans hl (by rw[sizeLine_eq];decide)
   refine qvn hB hC h1 h2 h3 ⟨_,h5⟩ hz ?_
   have ne:a ≠ hp.objs.size:=Nat.ne_of_lt (Heap.lt_size h1)
   have at1:(hp.push { cls:=.type "tuple",data:=.seq us.toArray }).get? a=some ob:=Heap.get?_push_of_some _ h1
   have hd3:=Obj.data_mapFields h3 (·.setIfInBounds 0 (Value.ref hp.objs.size))
   have at2:=Heap.get?_update_self (Obj.mapFields (·.setIfInBounds 0 (Value.ref hp.objs.size))) at1 (Obj.isFreed_of_fields hd3)
   refine⟨.non,_,I2.write (t':=tk) (e:=a) (o:=exO C a b) (by rw[hH];trivial) (.inl rfl) (fun c u hc q=> ?_) ⟨_,at2⟩ ?_,rfl,q⟩
   · rw[Heap.get?_update_other _ _ (Ne.symm hc)]
     exact Heap.get?_push_of_some _ q
   · refine qnh at2 ((Obj.cls_mapFields _ _).trans h2) hd3 (by rw[Array.size_setIfInBounds];exact h4) (t:=hp.objs.size) ?_ ?_ ?_
     · rw[Array.getElem?_setIfInBounds_self_of_lt (by omega)]
     · rw[Array.getElem?_setIfInBounds_ne (by decide)];exact h6
     · intro hb
       have:=h7 hb
       obtain ⟨oc,od,odt,osl⟩:=ob
       simp only at h3
       subst h3
       exact this
noncomputable def q3q (K:PySem.W.Frag) (name:Str) (ta tv:TE):TS:=fun D σ H=>tv σ H fun y H1=>ta σ H1 fun x H2=>∃ a C,x=.ref a∧H2 a=some (exO C a true)∧qco K C name∧D.nx σ (upd H2 a (exO C a false))
theorem qvr (ha:PE X o ta) (hv:PE X value tv) (hs:swapsWith value (some (.Attribute o name apos)) pos.line X.env=pure false):PS X (.Assign [.Attribute o name apos] value pos) (q3q X.K name ta tv):=by
 intro pins s σ H D I h
 refine plainObj_wpAny_Assign_Attribute (thn (hv pins s σ H _ I h) fun u s1 ⟨y,H1,I1,ry,q⟩=>thn (ha pins s1 σ H1 _ I1 q) fun ov s2 ⟨x,H2,I2,rx,a,C,ex,hH,S,q2⟩=> ?_) hs
 subst ex
 obtain rfl:ov=Value.ref a:=rx
 obtain ⟨ob,vs,t0,h1,h2,h3,h4,h5,h6,h7⟩:=qkf (I2.hok _ _ hH)
 obtain ⟨hp,g,d,tk,os⟩:=s2
 refine qvq I2.kIn S h1 h2 (fun c z=>by rw[h3]at z;cases z) (h7 rfl) fun h' tk' d' k1 k2 k3=> ?_
 refine⟨σ,_,I2.write (t':=tk') (e:=a) (o:=exO C a false) (by rw[hH];trivial) (.inl rfl) (fun c u hc q=>k3 c u hc q) ⟨_,k2⟩ ?_,q2⟩
 exact qnh k2 h2 h3 h4 h5 h6 fun z=>nomatch z
end
end L2
namespace T3
open PySem PySem.Spec PyProof.Rows L2
noncomputable def q3r (o:Expr) (m:Str) (apos:Pos) (es:List Expr) (pos:Pos):Prop:=∀ env:PySem.Env,∃ pl:Sem Bool,eval (.Call (.Attribute o m apos) es [] pos) env=(do
 let ov ← eval o env
 standAt apos.atName
 let (f,first) ← holding [ov] (getMethod ov m pl)
 callWith pos f first (backTo pos (starEach es env)) (backToKw pos (keywordEach [] env)))
noncomputable def spO (K:PySem.W.Frag):Sp:=fun vs H Q _=>∃ a C f y z,vs=[.ref a,.str y,.str z]∧H a=some (exO C a true)∧qdn K C f∧qco K C "word"∧Q .non (upd H a (exO C a false))
noncomputable def spB (C:Addr):Sp:=fun vs H Q _=>∃ a z,vs=[.ref a,.str z]∧H a=some (exO C a true)∧Q .non (upd H a (exO C a false))
section
variable {P:Program} {w:World} {K:PySem.W.Frag} {mg:Str→Option Value} {base:Heap} {st:Stmt} {f:Addr} {N:List Str} {qual nm:Str} {dV kV doc pm cdv ct oc:Value} {an od:Option Addr} {osl:Array (Option Value)} {k:Nat} {fns:List (Str × Nat × Nat)} {bs:List Str} {md:Md}
variable {p1 p2 p3 p4 p5 p6 p7 p8 p9 p10:Pos}
theorem qcg {X:Cx} {s:Sx} {i:Nat} {x:Str} {pos:Pos} (hN:X.N=s.N) (hsc:X.env.scope=s.sc) (h:qaq s i x=true):PE X (.Name x pos) (qgo i):=by
 unfold qaq at h
 simp only [Bool.and_eq_true,Bool.not_eq_true',decide_eq_true_eq]at h
 exact qex (by rw[hN];exact h.1.1.1) (by rw[hsc];exact qhi h.1.1.2) h.1.2 h.2
theorem qcp {X:Cx} {s:Sx} {x:Str} (hsc:X.env.scope=s.sc) (h:qcm s x=true):Gl X x∧(x==("__debug__":Str))=false:=by
 unfold qcm at h
 simp only [Bool.and_eq_true,Bool.not_eq_true',decide_eq_true_eq,beq_iff_eq]at h
 exact⟨by unfold Gl Env.kindOf;rw[hsc];exact h.1.1,h.1.2⟩
theorem qsu (lk:K.lookup f=some ⟨oc,od,.func (PySem.W.fnOf nm qual (qar st) (qo st) (qa st) dV kV doc pm an cdv ct),osl⟩) (hcd:PySem.W.codeIn K cdv qual=true) (S:qaf N ["self","word","why"] (qa st))
   (hst:qo st=[.Expr (.Call (.Attribute (.Name "ValueError" p1) "__init__" p2) [.Name "self" p3,.Name "why" p4] [] p5) p6,.Assign [.Attribute (.Name "self" p7) "word" p8] (.Name "word" p9) p10])
   (h0:qaq ⟨N,qa st,fun _=>true,fns,k,bs,md⟩ 0 "self"=true) (h1:qaq ⟨N,qa st,fun _=>true,fns,k,bs,md⟩ 1 "word"=true) (h2:qaq ⟨N,qa st,fun _=>true,fns,k,bs,md⟩ 2 "why"=true) (hg:qcm ⟨N,qa st,fun _=>true,fns,k,bs,md⟩ "ValueError"=true) (hm:mg "ValueError"=none) (hL:q3r (.Name "ValueError" p1) "__init__" p2 [.Name "self" p3,.Name "why" p4] p5) :
   qap P w K mg base CX0 (k+1) f (PySem.W.fnOf nm qual (qar st) (qo st) (qa st) dV kV doc pm an cdv ct) ["self","word","why"] (spO K):=by
 refine qnv lk hcd S (fun vs H Q E h=>by obtain ⟨a,C,f,y,z,rfl,_⟩:=h;rfl) fun A outer s H vs Q E hr h=> ?_
 obtain ⟨a,C,fC,y,z,rfl,hH,M,ST,q⟩:=h
 have v0:PE (qay CX0 P w K mg base N qual (qa st) f cdv A outer s H E) (.Name "self" p3) (qgo 0):=qcg rfl rfl h0
 have v0':PE (qay CX0 P w K mg base N qual (qa st) f cdv A outer s H E) (.Name "self" p7) (qgo 0):=qcg rfl rfl h0
 have v1:PE (qay CX0 P w K mg base N qual (qa st) f cdv A outer s H E) (.Name "word" p9) (qgo 1):=qcg rfl rfl h1
 have v2:PE (qay CX0 P w K mg base N qual (qa st) f cdv A outer s H E) (.Name "why" p4) (qgo 2):=qcg rfl rfl h2
 obtain ⟨g1,g2⟩:=qcp (X:=qay CX0 P w K mg base N qual (qa st) f cdv A outer s H E) rfl hg
 obtain ⟨pl,ht⟩:=hL (qay CX0 P w K mg base N qual (qa st) f cdv A outer s H E).env
 have c1:=q3p (pos:=p5) (p:=p1) (apos:=p2) (pl:=pl) g1 hm (qq v0 (qq v2 qbo rfl) rfl) rfl rfl ht
 have c2:=qvr (name:="word") (apos:=p8) (pos:=p10) v0' v1 rfl
 refine⟨_,by rw[hst];exact qef (qje (pos:=p6) c1) (qeg c2),?_⟩
 refine⟨.ref a,rfl,.str z,rfl,a,[.str z],C,fC,true,rfl,by show 1≤100;decide,M,hH,?_⟩
 refine⟨.str y,rfl,.ref a,rfl,a,C,rfl,qg,ST,?_⟩
 show Q .non (upd (upd H a (exO C a true)) a (exO C a false))
 rw[qta]
 exact q
theorem qp9 {fO C fC:Addr} {fdO:FuncData} {word:Str} {kO tkC:Nat} (lk:K.lookup f=some ⟨oc,od,.func (PySem.W.fnOf nm qual (qar st) (qo st) (qa st) dV kV doc pm an cdv ct),osl⟩) (hcd:PySem.W.codeIn K cdv qual=true) (S:qaf N ["self","why"] (qa st))
   (hst:qo st=[.Expr (.Call (.Attribute (.Name "OutError" p1) "__init__" p2) [.Name "self" p3,.Constant (.str word) tkC p7,.Name "why" p4] [] p5) p6])
   (h0:qaq ⟨N,qa st,fun _=>true,fns,k,bs,md⟩ 0 "self"=true) (h1:qaq ⟨N,qa st,fun _=>true,fns,k,bs,md⟩ 1 "why"=true) (hg:qcm ⟨N,qa st,fun _=>true,fns,k,bs,md⟩ "OutError"=true)
   {O:Addr} (hm:mg "OutError"=some (.ref O)) (MF:qsq K O "__init__" fO) (FO:qap P w K mg base CX0 kO fO fdO ["self","word","why"] (spO K)) (hk:kO≤k) (hb:Binds K fdO ["self","word","why"] [])
   (M:qdn K C fC) (ST:qco K C "word") (hL:q3r (.Name "OutError" p1) "__init__" p2 [.Name "self" p3,.Constant (.str word) tkC p7,.Name "why" p4] p5) :
   qap P w K mg base CX0 (k+1) f (PySem.W.fnOf nm qual (qar st) (qo st) (qa st) dV kV doc pm an cdv ct) ["self","why"] (spB C):=by
 refine qnv lk hcd S (fun vs H Q E h=>by obtain ⟨a,z,rfl,_⟩:=h;rfl) fun A outer s H vs Q E hr h=> ?_
 obtain ⟨a,z,rfl,hH,q⟩:=h
 have v0:PE (qay CX0 P w K mg base N qual (qa st) f cdv A outer s H E) (.Name "self" p3) (qgo 0):=qcg rfl rfl h0
 have v1:PE (qay CX0 P w K mg base N qual (qa st) f cdv A outer s H E) (.Name "why" p4) (qgo 1):=qcg rfl rfl h1
 obtain ⟨g1,g2⟩:=qcp (X:=qay CX0 P w K mg base N qual (qa st) f cdv A outer s H E) rfl hg
 obtain ⟨pl,ht⟩:=hL (qay CX0 P w K mg base N qual (qa st) f cdv A outer s H E).env
 have c1:=qsr (X:=qay CX0 P w K mg base N qual (qa st) f cdv A outer s H E) (E:=E0) (pos:=p5) (p:=p1) (apos:=p2) (pl:=pl) MF FO (hr.mono hk) g1 hm hb .nil (fun _ _ _ _ _ _ _ h=>False.elim h) (qq v0 (qq qjd (qq v1 qbo rfl) rfl) rfl) g2 rfl rfl ht
 refine⟨_,by rw[hst];exact qeg (qje (pos:=p6) c1),?_⟩
 refine⟨.ref a,rfl,.str z,rfl,a,C,fC,word,z,rfl,hH,M,ST,q⟩
end
end T3
namespace L2
open PySem PySem.Spec PyProof.Rows
section
variable {prog:Program} {w:World} {A:Around} {E:Value→Shared→Prop} {s:Shared} {env:PySem.Env}
variable {C:Addr}
theorem qnj {x:Sem Value} {Q:Flow→Shared→Prop} (hh:A.handled=none)
   (h:wpAny (model prog w) A x (fun v s₁=>∃ nm qn N bs bm hdct sn sub ab col dd k0 k1 k2 k3 k5 a od vs sl,v=.ref a∧Above bm∧s₁.heap.get? C=some (qcf nm qn C N bs bm hdct sn sub ab col dd k0 k1 k2 k3 k5)∧s₁.heap.get? a=some ⟨.ref C,od,.fields vs,sl⟩∧vs[1]? =some .none∧E (.ref a) s₁) E s) :
   wpAny (model prog w) A (raiseStmt env (some x) none) Q E s:=by
 unfold raiseStmt
 refine wpAny_bind (wpAny_mono h (fun v s₁ h₁=> ?_) fun _ _ y=>y)
 obtain ⟨nm,qn,N,bs,bm,hdct,sn,sub,ab,col,dd,k0,k1,k2,k3,k5,a,od,vs,sl,rfl,B,hC,he,hv,hE⟩:=h₁
 have c1:(Value.ref C::bm).contains (.type "BaseException")=true:=by rw[List.contains_cons,B.be,Bool.or_true]
 obtain ⟨hp,g,d,tk,os⟩:=s₁
 repeat (first
   | with_reducible refine wpAny_loadPart_at he ?_
   | with_reducible refine wpAny_loadPart_at hC ?_
   | (with_reducible refine wpAny_isSubtype_exc hC ?_;rw[c1])
   | wp_step)
 rw[hv]
 refine wpAny_pure ?_
 rw[if_neg (by decide)]
 exact wpAny_pure (wpAny_raiseNew_none hh hE)
theorem qnk {ex:Expr} {pos:Pos} {Q:Flow→Shared→Prop} (hh:A.handled=none)
   (h:wpAny (model prog w) A (eval ex env) (fun v s₁=>∃ nm qn N bs bm hdct sn sub ab col dd k0 k1 k2 k3 k5 a od vs sl,v=.ref a∧Above bm∧s₁.heap.get? C=some (qcf nm qn C N bs bm hdct sn sub ab col dd k0 k1 k2 k3 k5)∧s₁.heap.get? a=some ⟨.ref C,od,.fields vs,sl⟩∧vs[1]? =some .none∧E (.ref a) s₁) E s) :
   wpAny (model prog w) A (exec (.Raise (some ex) none pos) env) Q E s:=by
 rw[arm_exec_Raise]
 simp only [evalOpt,Option.map]
 refine wpAny_bind (wpAny_standAt (qnj (C:=C) hh ?_))
 exact wpAny_bind (wpAny_mono h (fun v s₁ q=>wpAny_bind (wpAny_standAt (wpAny_pure q))) fun _ _ y=>y)
end
section
variable {X:Cx} {pins:List (Addr × Obj)} {σ:St} {H:Hp} {s:Shared} {a:Addr}
noncomputable def gone (H:Hp) (a:Addr):Hp:=fun b=>if b=a then none else H b
theorem qkg {b:Addr} (h:b ≠ a):gone H a b=H b:=if_neg h
theorem qkh:gone H a a=none:=if_pos rfl
theorem gone_none {b:Addr} (h:H b=none):gone H a b=none:=by unfold gone;split <;> first | rfl | exact h
theorem Inv.drop {φ:Heap→Prop} (I:Inv X pins σ H s) (ha:H a=some (.ext φ)):Inv X pins σ (gone H a) s:=by
 have keep:∀ b u,H b=some u→(∀ ψ,u ≠ .ext ψ)→gone H a b=some u:=fun b u q n=>by
   rw[qkg (fun e=>by subst e;rw[ha]at q;exact n φ (Option.some.inj q).symm)];exact q
 refine⟨I.ok,I.os,I.bare,⟨I.base.keep,I.base.slot,fun b o q n hx=>gone_none (I.base.free b o q n hx),I.base.there,fun b xs q=>keep _ _ (I.base.tups b xs q) (by intro ψ z;cases z),fun b o u q=>keep _ _ (I.base.frzs b o u q) (by intro ψ z;cases z),fun b ps q=> ?_⟩,I.loc,I.cell,gone_none I.free,fun x c q=>gone_none (I.freeC x c q),fun p hp=> ?_,fun b u q=> ?_,I.len⟩
 · obtain ⟨more,q'⟩:=I.base.tbls b ps q
   exact⟨more,keep _ _ q' (by intro ψ z;cases z)⟩
 · obtain ⟨h1,h2,h3⟩:=I.pin p hp
   exact⟨h1,gone_none h2,h3⟩
 · have hb:b ≠ a:=fun e=>by subst e;rw[qkh]at q;cases q
   rw[qkg hb]at q
   exact(I.hok b u q).stay (fun c v _ q=>q) (fun c q=>keep _ _ q (by intro ψ z;cases z)) fun c xs q=>keep _ _ q (by intro ψ z;cases z)
end
noncomputable def qnl (X:Cx) (C:Addr) (W:XK):Prop:=∀ (pins:List (Addr × Obj)) (σ:St) (H:Hp) (s:Shared) (a:Addr) (b:Bool),Inv X pins σ H s→H a=some (exO C a b)→X.s₀.heap.get? a=none→W (.ref C) none (gone H a)→X.xe (.ref a) s
section
variable {P:Program} {w:World} {K:PySem.W.Frag} {mg:Str→Option Value} {base:Heap} {N:List Str} {qual:Str} {scope:Scope} {f C:Addr} {cd:Value} {A:Around} {outer:List Env} {s₀:Shared} {H₀:Hp} {E:XK}
theorem qqa:qnl (qay (CXe P w) P w K mg base N qual scope f cd A outer s₀ H₀ E) C E:=by
 intro pins σ H s a b I hH h0 hE
 obtain ⟨o,vs,t,h1,h2,h3,h4,h5,h6,h7⟩:=qkf (I.hok _ _ hH)
 have I':=I.drop hH
 show wpAny (model P w) (A.deeper (envOfC qual scope s₀.heap.objs.size f cd)) (leaving (envOfC qual scope s₀.heap.objs.size f cd) (.ref a)) _ _ _
 refine wpAny_leaving_firstW (base:=PySem.W.hideAll s.heap (frs (envOfC qual scope s₀.heap.objs.size f cd::outer)++[a])) (a0:=.ref t) I.ok.frames (PySem.W.funFrames_hide I'.stack fun env hm a hf=> ?_) rfl h1 (fun b o q=>PySem.W.of_hideAll _ q) (PySem.W.hideAll_none _ (by simp)) h3 h6 h5 fun h'' hL=> ?_
 · exact List.mem_append_left _ (List.mem_filterMap.mpr ⟨env,hm,hf⟩)
 · rw[h2]at hL
   exact qvk (s:=s) I' h0 qkh (ch:=[]) (fun b hb=>by simp at hb) hL hE
end
section
variable {X:Cx} {CX:CXT} {k:Nat} {f C:Addr} {fd:FuncData} {ps:List Str} {sp:Sp} {dvs:List V} {ds:List Value} {E W:XK} {x:Str} {p cpos pos:Pos} {e:Expr} {es:List Expr} {t:TA}
noncomputable def q0m (h₀:Heap) (C:Addr) (sp:Sp) (dvs:List V) (E W:XK) (t:TA):TS:=fun _ σ H=>q3o h₀ C sp dvs E t σ H fun v H2=>∃ a b,v=.ref a∧H2 a=some (exO C a b)∧h₀.get? a=none∧W (.ref C) none (gone H2 a)
theorem qqb (hw:qnl X C W) (hc:X.calm=true) (M:qdn X.K C f) (F:qap X.prog X.w X.K X.mg X.base CX k f fd ps sp) (hr:qam (k+1) X.A) (hg:Gl X x) (hm:X.mg x=some (.ref C)) (hb:Binds X.K fd ps ds) (hd:Vals dvs ds) (hx:Passes CX X E)
   (ha:PA X (e::es) t) (hdb:(x==("__debug__":Str))=false) (he:starEach (e::es) X.env=(false,eval e X.env)::starEach es X.env) (hpl:(backTo cpos (starEach es X.env)).any (·.1)=false) (hex:X.ex=[]) :
   PS X (.Raise (some (.Call (.Name x p) (e::es) [] cpos)) none pos) (q0m X.s₀.heap C sp dvs E W t):=by
 intro pins s σ H D I h
 refine qnk (C:=C) (I.ok.hd hc) ?_
 refine wpAny_mono (q0l M F hr hg hm hb hd hx ha hdb he hpl hex pins s σ H _ I h) (fun v s₁ q=> ?_) fun _ _ y=>y
 obtain ⟨v',H2,I2,rv,a,b,rfl,hH,h0,hW⟩:=q
 obtain rfl:v=Value.ref a:=rv
 obtain ⟨nm,qn,N,bs,bm,hdct,sn,sub,ab,col,dd,k0,k1,k2,k3,k5,mN,hC,hB,_,_⟩:=M.obj _ I2.kIn
 obtain ⟨o,vs,t0,h1,h2,h3,h4,h5,h6,h7⟩:=qkf (I2.hok _ _ hH)
 obtain ⟨oc,od,odt,osl⟩:=o
 simp only at h2 h3
 subst h2 h3
 exact⟨nm,qn,N,bs,bm,hdct,sn,sub,ab,col,dd,k0,k1,k2,k3,k5,a,od,vs,osl,rfl,hB,hC,h1,h6,hw pins σ H2 s₁ a b I2 hH h0 hW⟩
end
open PySem PySem.Spec PyProof.Rows PySem.W PySem.Calls PySem.Builtin PySem.Builtin.ObjectAttr PySem.Builtin.Getset_descriptor
structure qf1 (K:PySem.W.Frag) (C:Addr):Prop where
 ga:PySem.W.findIn K (.ref C) "__getattribute__"=some (some (.builtin "BaseException.__getattribute__"))
 gt:PySem.W.findIn K (.ref C) "__getattr__"=some none
 cl:PySem.W.findIn K (.ref C) "__class__"=some (some (.builtin "object.__class__"))
 gs:PySem.W.specialIn K (.builtin "object.__class__") "__get__"=some (some (.builtin "getset_descriptor.__get__"))
 tk:PySem.W.takesIn K (.builtin "object.__class__")=some true
 mo:PySem.W.mroIn K C (.type "object")=some true
 mb:PySem.W.mroIn K C (.type "BaseException")=some true
 is:(PySem.W.clsIn K C).isSome=true
section
variable {prog:Program} {w:World} {A:Around} {E:Value→Shared→Prop} {K:PySem.W.Frag} {C x:Addr} {s:Shared} {o:Obj}
theorem qki {M:Model} {h:Heap} (hx:h.get? x=some o) (hc:o.cls=.ref C):Looks M h (typeOf (.ref x)) (.ref C):=hc ▸ (Looks.ld hx).andThen .now
theorem qvs {R:Result→Shared→Prop} {tp:Value} (X:K.In s.heap) (hx:s.heap.get? x=some o) (hc:o.cls=.ref C) (hm:mroIn K C (.type "object")=some true)
   (h:R (.ok (.ret (.ref C))) s):codeAny (model prog w) A (.call (.builtin "getset_descriptor.__get__") ⟨[.builtin "object.__class__",.ref x,tp],[]⟩) R s:=by
 obtain ⟨hh,g,dr,t,os⟩:=s
 have L0:=qki (M:=model prog w) hx hc
 have L1:=looks_mroIn (M:=model prog w) X hm
 refine codeAny_call_builtin KF.slot_gs.plain KF.entry_gs (KF.slot_gs.check _ _ _ _ _ _ _ _ KF.type_class (KF.args_gs _ _ _) ?_)
 unfold Builtin.«getset_descriptor.__get__» descrGet
 rw[dga_obj]
 refine wpAny_bind (wpAny_pure ?_)
 unfold descrGetter descrCheckInstance descrNameAndClass isInstance
 simp only [KF.owner_class]
 repeat lk
 refine⟨Code.quiet_builtin _ (by decide +kernel),codeAny_builtin KF.entry_class ?_⟩
 unfold Builtin.«object.__class__» shownTypeOf
 repeat lk
 exact h
theorem qsv {M:Model} {h:Heap} (X:K.In h) (S:qf1 K C):Looks M h (find (.ref x) (.ref C) "__class__") (.bind (.builtin "getset_descriptor.__get__") (.builtin "object.__class__")):=by
 have L1:=looks_findIn (M:=M) X S.cl
 have L2:Looks M h (getOf (some (.builtin "object.__class__"))) (some (.builtin "getset_descriptor.__get__")):=looks_specialIn X S.gs
 have L3:=looks_takesIn (M:=M) X S.tk
 unfold find
 refine L1.andThen (L2.andThen ?_)
 have L4:Looks M h (dataDescriptor? (some (.builtin "object.__class__")) (some (.builtin "getset_descriptor.__get__"))) (some (.builtin "getset_descriptor.__get__",.builtin "object.__class__")):=by
   unfold dataDescriptor?
   refine L3.andThen ?_
   exact .now
 exact L4.andThen (Looks.tag .now)
theorem q0n {tk:Tok} {R:Result→Shared→Prop} (X:K.In s.heap) (S:qf1 K C) (hx:s.heap.get? x=some o) (hc:o.cls=.ref C) (h:R (.ok (.ret (.ref C))) s) :
   codeAny (model prog w) A (.call (.builtin "BaseException.__getattribute__") ⟨[.ref x,.str "__class__" tk],[]⟩) R s:=by
 have SF:=PySem.F.excAttr_ValueError
 have L0:=qki (M:=model prog w) hx hc
 have sub:Looks (model prog w) s.heap (isInstance (.ref x) (.type "BaseException")) true:=L0.andThen (looks_mroIn X S.mb)
 refine codeAny_call_builtin SF.ga.plain PySem.F.entry_bexc_ga (@PySem.W.check_slot (model prog w) _ _ s "BaseException.__getattribute__" "BaseException" "__getattribute__" (.ref x) [.str "__class__" tk] [] _ (by decide +kernel) (by decide +kernel) sub (PySem.F.args_bexc_ga (.ref x) (.str "__class__" tk)) ?_)
 unfold Builtin.«object.__getattribute__»
 have L1:=qsv (M:=model prog w) (x:=x) X S
 refine wpAny_bind (wpAny_pure (wpAny_bind (wpAny_pure (wpAny_bind (L0.here (wpAny_bind (L1.here ?_)))))))
 show wpAny _ _ (holding [.builtin "object.__class__"] (call (.builtin "getset_descriptor.__get__") [.builtin "object.__class__",.ref x,.ref C]) >>= ret) _ _ _
 refine wpAny_bind (wpAny_holding (wpAny_call (qvs X hx hc S.mo ?_)))
 exact wpAny_pure h
theorem qqc {Q:Option Value→Shared→Prop} (X:K.In s.heap) (S:qf1 K C) (hx:s.heap.get? x=some o) (hc:o.cls=.ref C) (h:Q (some (.ref C)) { s with toks:=s.toks+1 }) :
   wpAny (model prog w) A (getAttr? (.ref x) "__class__") Q E s:=by
 obtain ⟨hh,g,d,t,os⟩:=s
 have L0:=qki (M:=model prog w) hx hc
 have L1:=looks_findIn (M:=model prog w) X S.ga
 have L2:=looks_findIn (M:=model prog w) X S.gt
 unfold getAttr? getAttrBy? getAttrBy
 refine wpAny_bind (wpAny_mkText (wpAny_bind (wpAny_attempt (wpAny_holding (wpAny_bind (L0.at (wpAny_bind (L1.at ?_))))))))
 show wpAny _ _ (getAttrByItsOwn _ _ _ _ _ _) _ _ _
 unfold getAttrByItsOwn hookBefore
 refine wpAny_bind (L2.at (wpAny_bind (wpAny_attempt (wpAny_holding ?_))))
 unfold callGetattribute boundAndCalled
 rw[if_neg (by decide)]
 have f3:=PySem.F.excAttr_ValueError.ga.bind (.ref x)
 rw[f3]
 refine wpAny_bind (wpAny_pure ?_)
 refine wpAny_call (q0n (s:=⟨hh,g,d,t+1,os⟩) X S hx hc ?_)
 exact wpAny_pure (wpAny_pure h)
theorem qlz (S:qf1 K C):KitX K (.ref x) (.ref C) (fun h=>∃ o,h.get? x=some o∧o.cls=.ref C) where
 ty:=fun _ _ _ ⟨o,h1,h2⟩=>qki h1 h2
 it:=fun _ _ X _=>by
   obtain ⟨cdD,hcD⟩:=Option.isSome_iff_exists.mp S.is
   unfold clsIn at hcD
   split at hcD
   · rename_i c' d' cd' sl' ho
     intro A' Q' E' s' k q
     unfold isType loadHead
     exact wpAny_bind (wpAny_loadPart (k _ _ (X _ _ ho)) (wpAny_pure q))
   · cases hcD
 ne:=fun h tp dd its n sl X htp=>by
   obtain ⟨cdD,hcD⟩:=Option.isSome_iff_exists.mp S.is
   refine Bool.eq_false_iff.mpr fun q=> ?_
   have e:C=tp:=Value.ref.inj (beq_iff_eq.mp q)
   subst e
   unfold clsIn at hcD
   split at hcD
   · rename_i c' d' cd' sl' ho
     have z:=(X _ _ ho).symm.trans htp
     cases z
   · cases hcD
 ca:=fun X ⟨o,h1,h2⟩ k=>qqc X S h1 h2 k
end
noncomputable def exA (C e:Addr):HO:=.ext fun h=>∃ o,h.get? e=some o∧o.cls=.ref C
section
variable {P:Program} {w:World} {H:Hp} {h:Heap} {C e:Addr} {o:Obj}
theorem q0o (h1:h.get? e=some o) (h2:o.cls=.ref C):qw P w H h e (exA C e):=⟨⟨o,h1,h2⟩,⟨o,h1⟩,fun a c ⟨o',q1,q2⟩ k=>⟨o',k o' q1,q2⟩⟩
theorem q0p (x:qw P w H h e (exA C e)):∃ o,h.get? e=some o∧o.cls=.ref C:=x.1
end
section
variable {X:Cx} {pins:List (Addr × Obj)} {σ:St} {H:Hp} {s:Shared} {a:Addr}
theorem Inv.adopt {φ:Heap→Prop} (I:Inv X pins σ H s) (hH:H a=none) (ap:(a ∈ X.ex∨X.s₀.heap.get? a=none)∧a ≠ X.env.locals∧(∀ x c,X.env.cells.lookup x=some c→c ≠ a)∧∀ p ∈ X.pn++pins,p.1 ≠ a)
   (new:qw X.prog X.w (upd H a (.ext φ)) s.heap a (.ext φ)):Inv X pins σ (upd H a (.ext φ)) s:=by
 have keep:∀ b u,H b=some u→upd H a (.ext φ) b=some u:=fun b u q=>by
   rw[qc (fun e=>by rw[e,hH]at q;cases q)];exact q
 refine⟨I.ok,I.os,I.bare,⟨I.base.keep,I.base.slot,fun b o q n hx=> ?_,I.base.there,fun b xs q=>keep _ _ (I.base.tups b xs q),fun b o u q=>keep _ _ (I.base.frzs b o u q),fun b ps q=> ?_⟩,I.loc,I.cell,?_,fun x c q=> ?_,fun p hp=> ?_,fun b u q=> ?_,I.len⟩
 · have nb:b ≠ a:=fun e=>by
     subst e
     rcases ap.1 with z | z
     · exact hx z
     · rw[z]at q;cases q
   rw[qc nb];exact I.base.free b o q n hx
 · obtain ⟨more,q'⟩:=I.base.tbls b ps q
   exact⟨more,keep _ _ q'⟩
 · rw[qc (Ne.symm ap.2.1)];exact I.free
 · rw[qc (ap.2.2.1 x c q)];exact I.freeC x c q
 · obtain ⟨h1,h2,h3⟩:=I.pin p hp
   exact⟨h1,by rw[qc (ap.2.2.2 p hp)];exact h2,h3⟩
 · by_cases hb:b=a
   · subst hb
     rw[qg]at q;cases q
     exact new
   · rw[qc hb]at q
     exact(I.hok b u q).stay (fun c v _ q=>q) (fun c q=>keep _ _ q) fun c xs q=>keep _ _ q
theorem qqd {M:Model} {A:Around} {E:Value→Shared→Prop} {i:Nat} {n:Str} {pos:Pos} {Q:Unit→Shared→Prop} (I:Inv X pins σ H s) (hN:X.N.Nodup) (hi:X.N[i]? =some n) (hl:X.env.scope.names.lookup n=some .local)
   (h:∀ s',Inv X pins (σ.set i none) H s'→Q () s'):wpAny M A (do bindName X.env n .none;unbindBehindTheSuite X.env n pos) Q E s:=by
 obtain ⟨m,hn,hlk⟩:=id I.loc
 have hcls:(X.env.scope.kind==.class || (X.env.scope.kind==.module && X.env.locals != X.env.globals))=false:=by rw[I.ok.kind];rfl
 have hiσ:i < σ.length:=by rw[I.len];exact(List.getElem?_eq_some_iff.mp hi).1
 have cne:=I.cne
 refine wpAny_nameGoes_keeps hl hn hcls fun h' v hn' hs=> ?_
 obtain ⟨oL,_,_,hoL,_⟩:=id hn
 refine h _ ⟨I.ok,I.os,I.bare,⟨fun b o e n hb hx=> ?_,fun b o e n hb hx=> ?_,I.base.free,fun b o e hx=> ?_,I.base.tups,I.base.frzs,I.base.tbls⟩,⟨_,hn',fun j y v' e1 e2 e3=> ?_⟩,fun y c e=> ?_,I.free,I.freeC,fun p hp=> ?_,fun b ob e=> ?_,by simpa using I.len⟩
 · exact(hs.2 b (Nat.ne_of_lt (Nat.lt_of_lt_of_le (Heap.lt_size e) I.ok.above))).trans (I.base.keep b o e n hb hx)
 · obtain ⟨sl,e1⟩:=I.base.slot b o e n hb hx
   exact⟨sl,(hs.2 b (Nat.ne_of_lt (Nat.lt_of_lt_of_le (Heap.lt_size e) I.ok.above))).trans e1⟩
 · obtain ⟨o',e1⟩:=I.base.there b o e hx
   exact⟨o',(hs.2 b (Nat.ne_of_lt (Nat.lt_of_lt_of_le (Heap.lt_size e) I.ok.above))).trans e1⟩
 · by_cases hj:j=i
   · subst hj
     rw[List.getElem?_set_self hiσ]at e2
     cases e2
   · rw[List.getElem?_set_ne (Ne.symm hj)]at e2
     obtain ⟨u',r',q⟩:=hlk j y v' e1 e2 e3
     refine⟨u',r',?_⟩
     rcases q with ⟨k,e⟩ | ⟨k,c,e,z⟩
     · refine .inl ⟨k,?_⟩
       have:y ≠ n:=fun e=>hj (qgn hN e1 (e ▸ hi))
       simp [this,e]
     · exact .inr ⟨k,c,e,z.sameBut hs (cne y c e)⟩
 · obtain ⟨w',z⟩:=I.cell y c e
   exact⟨w',z.sameBut hs (cne y c e)⟩
 · obtain ⟨e,n,ne,nf,d⟩:=I.pin p hp
   exact⟨(hs.2 p.1 ne).trans e,n,ne,nf,d⟩
 · refine(I.hok b ob e).stay (fun c w' hc q=>(hs.2 c ?_).trans q) (fun _ q=>q) fun _ _ q=>q
   rintro rfl
   rcases hc with rfl | hc
   · rw[I.free]at e;cases e
   · rw[I.free]at hc;cases hc
end
noncomputable abbrev Cx.sub (X:Cx) (v:Value):Cx:={ X with A:=X.A.mark (some v),calm:=false,xe:=fun _ _=>False }
section
variable {X:Cx} {pins:List (Addr × Obj)} {σ:St} {H:Hp} {s:Shared} {v:Value}
theorem Inv.sub (I:Inv X pins σ H s) (v:Value):Inv (X.sub v) pins σ H s :=
 ⟨⟨I.ok.mod,I.ok.kind,I.ok.glob,I.ok.blt,I.ok.above,I.ok.inj,I.ok.has,I.ok.cab,fun z=>(nomatch z),I.ok.frames,I.ok.stk,I.ok.exf,I.ok.bs,I.ok.bsz,I.ok.noex,I.ok.exfs,I.ok.funs,I.ok.frf⟩,I.os,I.bare,I.base,I.loc,I.cell,I.free,I.freeC,I.pin,I.hok,I.len⟩
theorem Inv.unsub (ok:X.Ok) (I:Inv (X.sub v) pins σ H s):Inv X pins σ H s:=⟨ok,I.os,I.bare,I.base,I.loc,I.cell,I.free,I.freeC,I.pin,I.hok,I.len⟩
end
noncomputable def q3s (K:PySem.W.Frag):List V→Hp→VK→Prop:=fun xs H Q=>∃ a C v c b,xs=[.ref a,v]∧((∃ D,v=.ref D∧c=.ref D)∨∃ n,v=.ty n∧c=.type n)∧H a=some (exA C a)∧qf1 K C∧PySem.W.kitOne K (.ref C) c=some b∧Q (.bl b) H
theorem ql0 {X:Cx}:qx X (.builtin "isinstance") (q3s X.K):=by
 intro pins s σ H xs us Q I r h
 obtain ⟨a,C,v,c,b,rfl,hv,hH,S,e,q⟩:=h
 cases r with
 | cons r1 r =>
   cases r with
   | cons r2 r =>
     cases r
     obtain rfl:=(show _=Value.ref a from r1)
     obtain ⟨o,h1,h2⟩:=q0p (I.hok _ _ hH)
     rcases hv with ⟨D,rfl,rfl⟩ | ⟨n,rfl,rfl⟩
     · obtain rfl:=(show _=Value.ref D from r2)
       exact PySem.W.kia_one (qlz S) I.kIn ⟨o,h1,h2⟩ e (fun z=>nomatch z) fun tk=>⟨.bl b,H,I.tok _,rfl,q⟩
     · obtain rfl:=(show _=Value.type n from r2)
       exact PySem.W.kia_one (qlz S) I.kIn ⟨o,h1,h2⟩ e (fun z=>nomatch z) fun tk=>⟨.bl b,H,I.tok _,rfl,q⟩
structure qho (K:PySem.W.Frag) (C O:Addr):Prop where
 lo:∀ h:Heap,K.In h→∃ nm qn N bs bm hdct sn sub ab col dd k0 k1 k2 k3 k5,h.get? C=some (qcf nm qn C N bs bm hdct sn sub ab col dd k0 k1 k2 k3 k5)∧(Value.ref C::bm).contains (.ref O)=true
 hi:∀ h:Heap,K.In h→∃ nm qn N bs bm hdct sn sub ab col dd k0 k1 k2 k3 k5,h.get? O=some (qcf nm qn O N bs bm hdct sn sub ab col dd k0 k1 k2 k3 k5)∧Above bm
theorem qvt {M:Model} {A:Around} {E:Value→Shared→Prop} {s:Shared} {K:PySem.W.Frag} {C O e:Addr} {oe:Obj} {Q:Bool→Shared→Prop} (X:K.In s.heap) (T:qho K C O) (he:s.heap.get? e=some oe) (hcls:oe.cls=.ref C) (hq:Q true s) :
   wpAny M A (excMatches (.ref e) (.ref O)) Q E s:=by
 obtain ⟨nm,qn,N,bs,bm,hdct,sn,sub,ab,col,dd,k0,k1,k2,k3,k5,hC,hcC⟩:=T.lo _ X
 obtain ⟨nm',qn',N',bs',bm',hdct',sn',sub',ab',col',dd',k0',k1',k2',k3',k5',hO,hB⟩:=T.hi _ X
 have hcB:(Value.ref O::bm').contains (.type "BaseException")=true:=by rw[List.contains_cons,hB.be,Bool.or_true]
 have f:=tc_notTuple
 obtain ⟨h,g,d,t,os⟩:=s
 unfold excMatches
 repeat (first | (with_reducible refine wpAny_loadPart_at he ?_;rw[hcls]) | with_reducible refine wpAny_loadPart_at hO ?_ | (with_reducible refine wpAny_isSubtype_exc hO ?_;rw[hcB]) | (with_reducible refine wpAny_isSubtype_exc hC ?_;rw[hcC]) | wp_step)
 exact hq
section
variable {X:Cx} {pins:List (Addr × Obj)} {σ:St} {H:Hp} {s s':Shared} {E:XK} {v:Value} {x n:Str} {C O:Addr} {i:Nat} {np pos:Pos} {b₀:Stmt} {suite:List Stmt} {rest:List ExceptHandler} {ts:TS} {D:Ends} {Z:XK}
noncomputable def qnm (i:Nat) (D:Ends):Ends:={ nx:=fun σ H=>D.nx (σ.set i none) H,rt:=fun _ _=>False }
theorem q0q (I:Inv X pins σ H s) (hst:X.stack=X.env::X.outer) (hfr:X.env.frame=some X.env.locals) (hc:CXe X.prog X.w X.stack H s E v s') (T:qho X.K C O) (hg:Gl X x) (hm:X.mg x=some (.ref O)) (hN:X.N.Nodup) (hi:X.N[i]? =some n) (hl:X.env.scope.names.lookup n=some .local)
   (hE:∀ cls H',E cls none H'→cls=.ref C∧∀ e,H' e=none→ts (qnm i D) (σ.set i (some (.ref e))) (upd H' e (exA C e)))
   (hs:∀ v,PSs (X.sub v) (b₀::suite) ts) (hd:(x==("__debug__":Str))=false) :
   wpAny (model X.prog X.w) X.A (noteFrame v X.env) (fun _ s₂=>wpAny (model X.prog X.w) X.A (setFlight v none) (fun _ s₃ =>
     wpAny (model X.prog X.w) X.A (handleBy v X.env (.ExceptHandler (some (.Name x np)) (some n) (b₀::suite) pos::rest)) (SP X pins D) X.xe s₃) X.xe s₂) X.xe s':=by
 obtain ⟨e,T0,cls,a0,H',rfl,hos,hbare,hun,hok,hn1,hn2,hf1,hf2,hat,hEE⟩:=hc
 obtain ⟨rfl,hk⟩:=hE _ _ hEE
 obtain ⟨hTe,oe,vs,oT,tvs,g1,⟨g2,g3⟩,g4,g5,g6,g7,g8⟩:=hat
 have I1:Inv X pins σ H' s':=I.callN' (ch:=[]) hos hun hok hbare (fun b hb=>by simp at hb)
 have ap:∀ b ∈ [e,T0],((b ∈ X.ex∨X.s₀.heap.get? b=none)∧b ≠ X.env.locals∧(∀ x c,X.env.cells.lookup x=some c→c ≠ b)∧∀ p ∈ X.pn++pins,p.1 ≠ b)∧H' b=none:=fun b hb=>by
   rcases List.mem_cons.mp hb with r | r
   · rw[r];exact⟨I.apart hn1,hf1⟩
   · rw[List.mem_singleton.mp r];exact⟨I.apart hn2,hf2⟩
 have mf:∀ env ∈ X.env::X.outer,∀ a,env.frame=some a→a ∈ frs X.stack++[e,T0]:=fun env hm a hf=>List.mem_append_left _ (by rw[hst];exact List.mem_filterMap.mpr ⟨env,hm,hf⟩)
 have fly:Heap.FlyingW (PySem.W.hideAll s'.heap (frs X.stack++[e,T0])) (X.env::X.outer) e (.ref C) a0 s'.heap:=by
   refine⟨fun b o q=>PySem.W.of_hideAll _ q,PySem.W.hideAll_none _ (by simp),PySem.W.funFrames_hide (by have:=I1.stack;rwa [hst]at this) mf,oe,vs,T0,oT,tvs,g1,⟨g2,g3⟩,g4,g5,PySem.W.hideAll_none _ (by simp),hTe,g6,g7,g8⟩
 refine wpAny_looks_onW (by rw[I.ok.frames,hst]) hfr fly fun h4 hh4 up4=> ?_
 refine wpAny_landsW hh4 fun h5 fl5 up5'=> ?_
 have up5:=up4.trans up5'
 have I5:Inv X pins σ H' { s' with heap:=h5,toks:=s'.toks }:=I1.xhop ap fl5.1 up5
 refine wpAny_handleBy_cons (codeAny_handlers_test (qbi (X:=X.sub (.ref e)) (I5.sub (.ref e)) hg hm ?_ hd)) (by intro q;cases q)
 obtain ⟨ob,hob,hobc⟩:=fl5.there
 refine qvt (s:={ s' with heap:=h5 }) I5.kIn T hob hobc (codeAny_handlers_suite_as ?_)
 refine PyProof.Rows.lands_againW fl5 fun h6 fl6 up6=> ?_
 have I6:Inv X pins σ H' { s' with heap:=h6,toks:=s'.toks }:=I1.xhop ap fl6.1 (up5.trans up6)
 obtain ⟨oc,hoc,hocc⟩:=fl6.there
 have I7:Inv X pins σ (upd H' e (exA C e)) { s' with heap:=h6,toks:=s'.toks }:=I6.adopt hf1 (ap e (by simp)).1 (q0o hoc hocc)
 refine qcd (s:={ s' with heap:=h6,toks:=s'.toks }) I7 hN hi (.inl hl) (v:=.ref e) rfl (fun s8 I8=> ?_) (.inr hl)
 refine wpAny_mono (hs (.ref e) pins s8 _ _ _ (I8.sub (.ref e)) (hk e hf1)) (fun f s9 q=> ?_) (fun _ _ z=>False.elim z)
 cases f with
 | next =>
   obtain ⟨σ',H9,I9,q9⟩:=q
   exact qqd (I9.unsub I.ok) hN hi hl fun s10 I10=>⟨_,H9,I10,q9⟩
 | brk=>obtain ⟨σ',H9,I9,q9⟩:=q;exact False.elim q9
 | cont=>obtain ⟨σ',H9,I9,q9⟩:=q;exact False.elim q9
 | ret u=>obtain ⟨v,σ',H9,I9,r9,q9⟩:=q;exact False.elim q9
end
section
variable {X:Cx} {body:List Stmt} {h₀:ExceptHandler} {hs:List ExceptHandler} {pos:Pos} {t:TS}
theorem qvu (hb:PSs X.nox body t):PS X (.Try body (h₀::hs) [] [] pos) t:=by
 intro pins s σ H D I h
 refine wpAny_Try_except (wpAny_mono (hb pins s σ H D (I.wish _) h) (fun f s1 q=> ?_) fun _ _ z=>False.elim z)
 have q':=q.unwish
 cases f <;> first | exact q' | exact wpAny_execs_nil q'
end
section
variable {X:Cx} {E:XK} {x n g:Str} {C O:Addr} {i j:Nat} {np pos:Pos} {b₀:Stmt} {suite:List Stmt} {rest:List ExceptHandler} {ts:TS}
variable {k:Nat} {f:Addr} {fd:FuncData} {ps:List Str} {sp:Sp} {e:Expr} {es:List Expr} {ta:TA} {y:Str} {py p pc pa hp:Pos}
noncomputable def q5z (C:Addr) (i:Nat) (sp:Sp) (ta:TA) (ts:TS):TS:=fun D σ H=>ta σ H fun vs H1=>sp vs H1 (fun _ _=>False) fun cls _ H'=>cls=.ref C∧∀ a,H' a=none→ts (qnm i D) (σ.set i (some (.ref a))) (upd H' a (exA C a))
theorem qvv (hst:X.stack=X.env::X.outer) (hfr:X.env.frame=some X.env.locals) (F:qap X.prog X.w X.K X.mg X.base (CXe X.prog X.w) k f fd ps sp) (hr:qam k X.A) (hgg:Gl X g) (hmg:X.mg g=some (.ref f)) (hkp:PySem.W.keepIn X.K (.ref f)=true) (hbd:Binds X.K fd ps [])
   (ha:PA X.nox (e::es) ta) (hdg:(g==("__debug__":Str))=false) (he:starEach (e::es) X.env=(false,eval e X.env)::starEach es X.env) (hpl:(backTo pc (starEach es X.env)).any (·.1)=false) (hsw:swapsWith (.Call (.Name g p) (e::es) [] pc) (some (.Name y py)) pa.line X.env=pure false)
   (T:qho X.K C O) (hg:Gl X x) (hm:X.mg x=some (.ref O)) (hN:X.N.Nodup) (hi:X.N[i]? =some n) (hl:X.env.scope.names.lookup n=some .local) (hs:∀ v,PSs (X.sub v) (b₀::suite) ts) (hd:(x==("__debug__":Str))=false) :
   PS X (.Try [.Assign [.Name y py] (.Call (.Name g p) (e::es) [] pc) pa] (.ExceptHandler (some (.Name x np)) (some n) (b₀::suite) hp::rest) [] [] pos) (q5z C i sp ta ts):=by
 intro pins s σ H D I h
 refine wpAny_Try_except (wpAny_execs_cons ?_)
 refine wpAny_Assign_Name (wpAny_Call_Name_kw (qbi I hgg hmg ?_ hdg)) hsw
 refine PySem.W.callWith_K (h₀:=X.base) I.ok.mod.kin hkp (wpAny_mono (ha pc pins s σ H _ (I.wish _) h) (fun us s1 ⟨vs,H1,I1',r,q⟩=> ?_) fun _ _ z=>False.elim z) he hpl
 have I1:Inv X pins σ H1 s1:=I1'.unwish
 refine⟨I1.kIn,?_⟩
 have hlen:us.length=ps.length:=by rw[← r.length];exact F.len _ _ _ _ q
 refine wpAny_call (codeAny_mono (F.run X.A X.stack s1 H1 ⟨us,[]⟩ us vs _ _ hr I1.env0 (by have:=hbd s1 us I1.kIn (by simpa using hlen);simpa using this) r q) fun r s' hq=> ?_)
 cases r with
 | error v=>exact q0q (E:=fun cls _ H'=>cls=.ref C∧∀ a,H' a=none→ts (qnm i D) (σ.set i (some (.ref a))) (upd H' a (exA C a))) I1 hst hfr hq T hg hm hN hi hl (fun cls H' z=>z) hs hd
 | ok fl =>
   cases fl with
   | ret u=>obtain ⟨_,_,_,_,_,_,_,z⟩:=hq;exact False.elim z
   | next=>exact False.elim hq
   | brk=>exact False.elim hq
   | cont=>exact False.elim hq
end
end L2
namespace T3
open PySem PySem.Spec PyProof.Rows L2
theorem qsw {H:Hp} {a:Addr} {o o':HO} (h:H a=none):gone (upd (upd H a o) a o') a=H:=by
 funext b
 by_cases hb:b=a
 · subst hb;rw[qkh,h]
 · rw[qkg hb,qc hb,qc hb]
noncomputable def tRz (C:Addr) (W:XK) (g:Env→Sto→Option Sto):TS:=fun _ σ H=>∃ w Γ S S',Rel w H σ Γ∧qf w H S∧g Γ S=some S'∧∀ w' H',Le w H w' H'→qf w' H' S'→W (.ref C) none H'
noncomputable def qhp (fb:Env→M Bool):Env→Sto→Option Sto:=fun Γ S=>match fb Γ S with
 | .ok true S'=>some S'
 | _=>none
section
variable {X:Cx} {C f:Addr} {W:XK} {E E':XK} {k k':Nat} {fd:FuncData} {x z:Str} {p pz cpos pos:Pos} {tk:Nat} {c:Expr} {els rest:List Stmt} {st:Stmt} {fb:Env→M Bool} {m:MS} {g:Env→Sto→Option Sto}
theorem q3t (hw:qnl X C W) (hc:X.calm=true) (M:qdn X.K C f) (F:qap X.prog X.w X.K X.mg X.base CX0 k f fd ["self","why"] (spB C)) (hr:qam k' X.A) (hk:k+1≤k') (hg:Gl X x) (hm:X.mg x=some (.ref C)) (hb:Binds X.K fd ["self","why"] []) (hdb:(x==("__debug__":Str))=false) (hex:X.ex=[]) :
   PS X (.Raise (some (.Call (.Name x p) [.Constant (.str z) tk pz] [] cpos)) none pos) (fun _ _ H=>W (.ref C) none H):=by
 refine PS.mono (qqb (E:=E0) hw hc M F (hr.mono hk) hg hm hb .nil (fun _ _ _ _ _ _ _ h=>False.elim h) (qq qjd qbo rfl) hdb rfl rfl hex) fun D σ H q=> ?_
 refine⟨by show 1≤sizeLine;decide,fun a ha h0=>⟨a,z,rfl,qg,rfl,a,false,rfl,qg,h0,?_⟩⟩
 rw[qsw ha]
 exact q
theorem q3u (hc:PT X c (tB (xw E') fb)) (hr:PS X st (fun _ _ H=>W (.ref C) none H)):PSs X (.If c [st] els pos::rest) (tRz C W (qhp fb)):=by
 refine PSs.mono (qef (qwa hc (qeg hr) (qii (sts:=els))) (qii (sts:=rest))) fun D σ H ⟨w,Γ,S,S',rel,hold,e,q⟩=> ?_
 refine⟨w,Γ,S,rel,hold,?_⟩
 unfold qhp at e
 cases e1:fb Γ S with
 | no=>rw[e1]at e;cases e
 | err y S1=>rw[e1]at e;cases e
 | ok b S1 =>
   rw[e1]at e
   cases b with
   | false=>cases e
   | true =>
     cases e
     intro w' H' l h
     exact q w' H' l h
end
noncomputable def spR (n m:Nat) (C:Addr) (g:Env→Sto→Option Sto):Sp:=fun vs H _ E=>∃ w ds S S',qb w H ds vs∧qf w H S∧ds.length=n∧g (ds.map some++List.replicate m none) S=some S'∧∀ w' H',Le w H w' H'→qf w' H' S'→E (.ref C) none H'
section
variable {P:Program} {w:World} {K:PySem.W.Frag} {mg:Str→Option Value} {base:Heap}
theorem q50 {x qual:Str} {st:Stmt} {f C:Addr} {fd:FuncData} {N ps:List Str} {k:Nat} {g:Env→Sto→Option Sto} (F:Fun K x qual st f fd) (S:qaf N ps (qa st))
   (hb:∀ (cdv:Value) (A:Around) (outer:List PySem.Env) (s:Shared) (H:Hp) (E:XK),qam k (A.deeper (envOfC qual (qa st) s.heap.objs.size f cdv))→PSs (qay (CXe P w) P w K mg base N qual (qa st) f cdv A outer s H E) (qo st) (tRz C E g)) :
   qap P w K mg base (CXe P w) (k+1) f fd ps (spR ps.length (N.length - ps.length) C g):=by
 refine F.okX S (fun vs H Q E h=> ?_) (fun cdv A outer s H vs Q E hr h=> ?_)
 · obtain ⟨w,ds,S,S',r,_,e,_⟩:=h
   rw[← r.length];exact e
 · obtain ⟨w,ds,S,S',r,hold,e,eg,q⟩:=h
   refine⟨_,hb cdv A outer s H E hr,w,_,S,S',?_,hold,eg,q⟩
   have:=Rel.start (m:=N.length - ps.length) r
   unfold L2.start
   rw[← r.length,e]
   exact this
theorem qvw {Φ:List Fd} {s:Sx} {N ps:List Str} {qual:Str} {sc:Scope} {f:Addr} {cdv:Value} {A:Around} {outer:List PySem.Env} {s₀:Shared} {H:Hp} {E E':XK} (S:qaf N ps sc) (hN:s.N=N) (hsc:s.sc=sc) (hf:s.fnb=fun _=>true) (hr:qam s.L (A.deeper (envOfC qual sc s₀.heap.objs.size f cdv)))
   (hb:∀ b ∈ s.bs,mg b=none) (hm:qf9 P w K mg s.md) (hF:FT CX0 P w K mg base s.fns Φ):Gd CX0 Φ s (qay (CXe P w) P w K mg base N qual sc f cdv A outer s₀ H E).nox E':=qhj (E:=E) S hN hsc hf hr hb hm hF
end
noncomputable def qhq (n m:Nat) (as:Env→M (List D)) (g:Env→Sto→Option Sto) (Γ:Env) (S:Sto):Option Sto:=match as Γ S with
 | .ok ds S1=>if ds.length=n then g (ds.map some++List.replicate m none) S1 else none
 | _=>none
noncomputable def qnn (n m:Nat) (as:Env→M (List D)) (g:Env→Sto→Option Sto) (i j:Nat) (hs:List D) (b:MS):MS:=fun Γ S=>match qhq n m as g Γ S with
 | some S'=>.ok (.nx,(Γ.set j (some (.lst hs))).set i none) S'
 | none=>b Γ S
theorem Rel.catch {w:Wd} {H:Hp} {σ:St} {Γ:Env} {i j:Nat} {d:D} {v u:V} (r:Rel w H σ Γ) (ne:j ≠ i) (h:Rep w H d v):Rel w H (((σ.set i (some u)).set j (some v)).set i none) ((Γ.set j (some d)).set i none):=by
 refine⟨by simp [r.len],fun k e q=> ?_⟩
 by_cases hk:k=i
 · subst hk
   rw[List.getElem?_set]at q
   simp only [if_true]at q
   split at q <;> cases q
 · rw [List.getElem?_set_ne (Ne.symm hk)]at q ⊢
   by_cases hj:k=j
   · subst hj
     rw[List.getElem?_set]at q
     simp only [if_true]at q
     split at q
     · rename_i hl
       cases q
       refine⟨v,?_,h⟩
       rw[List.getElem?_set_self (by simpa [r.len]using hl)]
     · cases q
   · rw[List.getElem?_set_ne (Ne.symm hj)]at q ⊢
     rw[List.getElem?_set_ne (Ne.symm hk)]
     exact r.at_ k e q
section
variable {X:Cx} {E':XK} {x n g:Str} {C O:Addr} {i j m:Nat} {np pos:Pos} {b₀:Stmt} {suite:List Stmt} {rest:List ExceptHandler} {ts:TS} {gz:Env→Sto→Option Sto} {hs:List D} {us:List V} {as:Env→M (List D)} {b:MS}
variable {k k':Nat} {f:Addr} {fd:FuncData} {ps:List Str} {e:Expr} {es:List Expr} {y:Str} {py p pc pa hp:Pos}
theorem q3v (hxe:X.nox=X) (hst:X.stack=X.env::X.outer) (hfr:X.env.frame=some X.env.locals) (F:qap X.prog X.w X.K X.mg X.base (CXe X.prog X.w) k f fd ps (spR ps.length m C gz)) (hr:qam k' X.A) (hk:k≤k') (hgg:Gl X g) (hmg:X.mg g=some (.ref f)) (hkp:PySem.W.keepIn X.K (.ref f)=true) (hbd:Binds X.K fd ps [])
   (ha:PA X (e::es) (tL (xw E') as)) (hdg:(g==("__debug__":Str))=false) (he:starEach (e::es) X.env=(false,eval e X.env)::starEach es X.env) (hpl:(backTo pc (starEach es X.env)).any (·.1)=false) (hsw:swapsWith (.Call (.Name g p) (e::es) [] pc) (some (.Name y py)) pa.line X.env=pure false)
   (T:qho X.K C O) (hg:Gl X x) (hm:X.mg x=some (.ref O)) (hN:X.N.Nodup) (hi:X.N[i]? =some n) (hl:X.env.scope.names.lookup n=some .local) (hd:(x==("__debug__":Str))=false) (hb:PSs X [.Assign [.Name y py] (.Call (.Name g p) (e::es) [] pc) pa] (tS (xw E') b))
   (hs1:∀ v,PSs (X.sub v) (b₀::suite) ts) (hs2:∀ D σ H a,H a=some (exA C a)→σ[i]? =some (some (.ref a))→(∀ q,H q=none→D.nx (σ.set j (some (.ref q))) (upd H q (.lst us)))→ts D σ H) (hus:∀ w H,qb w H hs us) (ne:j ≠ i) :
   PS X (.Try [.Assign [.Name y py] (.Call (.Name g p) (e::es) [] pc) pa] (.ExceptHandler (some (.Name x np)) (some n) (b₀::suite) hp::rest) [] [] pos) (tS (xw E') (qnn ps.length m as gz i j hs b)):=by
 intro pins s σ H D I ⟨w,Γ,S,rel,hold,q⟩
 unfold qnn at q
 cases e1:qhq ps.length m as gz Γ S with
 | none =>
   rw[e1]at q
   exact qvu (X:=X) (t:=tS (xw E') b) (by rw[hxe];exact hb) pins s σ H D I ⟨w,Γ,S,rel,hold,q⟩
 | some S' =>
   rw[e1]at q
   refine qvv (i:=i) (X:=X) hst hfr F (hr.mono hk) hgg hmg hkp hbd (by rw[hxe];exact ha) hdg he hpl hsw T hg hm hN hi hl hs1 hd pins s σ H D I ?_
   unfold qhq at e1
   refine⟨w,Γ,S,rel,hold,?_⟩
   cases e2:as Γ S with
   | no=>rw[e2]at e1;cases e1
   | err z S1=>rw[e2]at e1;cases e1
   | ok ds S1 =>
     rw[e2]at e1
     dsimp only at e1
     split at e1
     · rename_i hlen
       intro w1 H1 l1 h1 vs rv
       refine⟨w1,ds,S1,S',rv,h1,hlen,e1,fun w2 H2 l2 h2=>⟨rfl,fun a hz=> ?_⟩⟩
       have hiσ:i < σ.length:=by rw[I.len];exact(List.getElem?_eq_some_iff.mp hi).1
       refine hs2 _ _ _ a qg (List.getElem?_set_self hiσ) fun z hz2=> ?_
       have h3:=qby (o:=exA C a) h2 hz
       have l3:=qbd (o:=exA C a) h2 hz
       have h4:=qby (o:=HO.lst us) h3 hz2
       have l4:=qbd (o:=HO.lst us) h3 hz2
       have l:=l1.trans (l2.trans (l3.trans l4))
       exact q _ _ l h4 _ ((rel.mono l).catch ne ⟨z,us,rfl,.inl rfl,qg,hus _ _⟩)
     · cases e1
end
noncomputable abbrev qkj:CSL:=.cons (.ret (.bin false .Add (.bi .sum (.cons (.var 0) .nil)) (.var 1))) .nil
noncomputable def qos:List (Str × Nat × Nat):=[]
noncomputable def qvx:List Fd:=[]
noncomputable def qdj:Fd:=qd2 (qai qvx qos qkj) 0
noncomputable abbrev qdo:CSL:=.cons (.sif (.cmp .Lt (.var 2) (.var 3)) (.cons (.ret (.var 4)) .nil) .nil) .nil
noncomputable abbrev qdp:CSL:=.cons (.aug .Add 3 (.var 5)) qdo
noncomputable abbrev qdq:CSL:=.cons (.ret .non) .nil
noncomputable abbrev qdr:CSL:=.cons (.sfor (.tg (.cons (.nm 4) (.cons (.nm 5) .nil))) (.enum (.cons (.var 0) .nil)) qdp) qdq
noncomputable abbrev qds:CSL:=.cons (.set 3 (.int 0)) qdr
noncomputable abbrev qc9:CSL:=.cons (.sif (.or (.cmp .Lt (.var 2) (.int 0)) (.one (.cmp .GtE (.var 2) (.call 0 (.cons (.var 0) (.cons (.var 1) .nil)))))) (.cons .rse .nil) .nil) qds
noncomputable def qa6:List (Str × Nat × Nat):=[("total",2,1)]
noncomputable def qbm:List Fd:=[qdj]
@[simp] theorem qsx:qa3 qbm qa6 0=qbl 2 qdj:=(rfl)
noncomputable def qa0:CB:=(.or (.cmp .Lt (.var 2) (.int 0)) (.one (.cmp .GtE (.var 2) (.call 0 (.cons (.var 0) (.cons (.var 1) .nil))))))
noncomputable def qb6:Env→Sto→Option Sto:=qhp (evB qbm qa6 qa0)
noncomputable def qbn:Fd:=qd2 (qai qbm qa6 qc9) 3
noncomputable abbrev qbk:CSL:=.cons (.set 3 (.call 0 (.cons (.var 0) (.cons (.var 1) (.cons (.var 2) .nil))))) .nil
noncomputable abbrev q8:CSL:=.cons (.ret (.var 3)) .nil
noncomputable def qh:List (Str × Nat × Nat):=[("ticket_of",3,2)]
noncomputable def qi:List Fd:=[qbn]
@[simp] theorem qsy:qa3 qi qh 0=qbl 3 qbn:=(rfl)
noncomputable def qao:CS:=(.set 3 (.str "none"))
noncomputable def qb7:CL:=(.cons (.var 0) (.cons (.var 1) (.cons (.var 2) .nil)))
noncomputable def qau:MS:=qnn 3 3 (evA qi qh qb7) qb6 4 3 [.str "bad",.bl true,.bl true,.bl false] (qai qi qh qbk)
noncomputable def qav:Fd:=qd2 (seqS (evS qi qh qao) (seqS qau (qai qi qh q8))) 2
noncomputable abbrev ql1:CSL:=.cons (.sif (.not (.tru (.call 3 (.cons (.call 5 (.cons (.var 4) (.cons (.var 3) (.cons (.var 9) .nil)))) (.cons (.var 7) .nil))))) (.cons (.ret (.bl false)) .nil) .nil) .nil
noncomputable abbrev ql2:CSL:=.cons (.aug .Add 6 (.ix (.var 2) (.var 7))) .nil
noncomputable abbrev ql3:CSL:=.cons (.sfor (.nm 9) (.seq (.tup (.cons (.var 6) (.cons (.bin false .Sub (.bin false .Add (.var 6) (.ix (.var 2) (.var 7))) (.int 1)) (.cons (.var 8) .nil))))) ql1) ql2
noncomputable abbrev ql4:CSL:=.cons (.set 8 (.bin false .Add (.var 6) (.call 1 (.cons (.var 1) (.cons (.ix (.var 2) (.var 7)) .nil))))) ql3
noncomputable abbrev ql5:CSL:=.cons (.sif (.not (.tru (.call 3 (.cons (.call 5 (.cons (.var 4) (.cons (.var 3) (.cons (.var 9) .nil)))) (.cons .non .nil))))) (.cons (.ret (.bl false)) .nil) .nil) .nil
noncomputable abbrev ql6:CSL:=.cons (.sfor (.nm 9) (.seq (.tup (.cons (.var 6) (.cons (.bin false .Sub (.var 5) (.int 1)) (.cons (.bin false .Add (.var 6) (.call 1 (.cons (.var 1) (.cons (.var 3) .nil)))) .nil))))) ql5) .nil
noncomputable abbrev ql7:CSL:=.cons (.sif (.not (.tru (.call 3 (.cons (.call 5 (.cons (.var 4) (.cons (.var 3) (.cons (.var 9) .nil)))) (.cons (.lst false (.cons (.str "bad") (.cons (.bl true) (.cons (.bl true) (.cons (.bl false) .nil))))) .nil))))) (.cons (.ret (.bl false)) .nil) .nil) .nil
noncomputable abbrev ql8:CSL:=.cons (.ret (.cmp .Eq (.var 4) (.var 2))) .nil
noncomputable abbrev ql9:CSL:=.cons (.sfor (.nm 9) (.seq (.tup (.cons (.neg (.int 1)) (.cons (.var 5) (.cons (.bin false .Add (.var 5) (.call 2 (.cons (.var 1) .nil))) (.cons (.bin false .Sub (.neg (.int 1)) (.call 2 (.cons (.var 1) .nil))) .nil)))))) ql7) ql8
noncomputable abbrev qma:CSL:=.cons (.sif (.cmp .Gt (.var 3) (.int 0)) ql6 .nil) ql9
noncomputable abbrev qkk:CSL:=.cons (.sfor (.nm 7) (.rng1 (.cons (.bi .len (.cons (.var 2) .nil)) .nil)) ql4) qma
noncomputable abbrev qkl:CSL:=.cons (.set 6 (.int 0)) qkk
noncomputable abbrev qkm:CSL:=.cons (.sif (.not (.tru (.call 3 (.cons (.call 0 (.cons (.var 4) (.cons (.var 3) .nil))) (.cons (.var 5) .nil))))) (.cons (.ret (.bl false)) .nil) .nil) qkl
noncomputable abbrev qkn:CSL:=.cons (.set 5 (.bin false .Add (.bi .sum (.cons (.var 2) .nil)) (.var 3))) qkm
noncomputable abbrev qko:CSL:=.cons (.set 4 (.bi (.list false) (.cons (.var 2) .nil))) qkn
noncomputable abbrev qkp:CSL:=.cons (.set 3 (.ix (.lst false (.cons (.int 0) (.cons (.int 1) (.cons (.call 1 (.cons (.var 1) (.cons (.int 1001) .nil))) (.cons (.int 1000) .nil))))) (.call 1 (.cons (.var 1) (.cons (.int 4) .nil))))) qko
noncomputable abbrev qdk:CSL:=.cons (.set 2 (.call 4 (.cons (.var 1) (.cons (.call 1 (.cons (.var 1) (.cons (.int 13) .nil))) .nil)))) qkp
noncomputable def qax:List (Str × Nat × Nat):=[("total",2,1),("_law_take",2,1),("_law_great",1,2),("_law_same",2,6),("_law_ticket_row",2,2),("_law_whose",3,5)]
noncomputable def qa7:List Fd:=[qdj,qat,qb5,qj 5,qaw,qav]
@[simp] theorem qvy:qa3 qa7 qax 0=qbl 2 qdj:=(rfl)
@[simp] theorem qvz:qa3 qa7 qax 1=qbl 2 qat:=(rfl)
@[simp] theorem qv0:qa3 qa7 qax 2=qbl 1 qb5:=(rfl)
@[simp] theorem qv1:qa3 qa7 qax 3=qbl 2 (qj 5):=(rfl)
@[simp] theorem qv2:qa3 qa7 qax 4=qbl 2 qaw:=(rfl)
@[simp] theorem qv3:qa3 qa7 qax 5=qbl 3 qav:=(rfl)
theorem qsz {m n:Nat} {g:Nat→D} {S:Sto} {P:D→Sto→Prop} {x:D} (hx:D.lst (vec n g)=x) (hn:n≤100) (hg:∀ i < n,∀ S (P:D→Sto→Prop),P (.bl true) S→Ok (qj (m+1) [g i,g i] S) P) (k:P (.bl true) S):Ok (qj (m+2) [x,x] S) P:=by
 have i1:∀ S,biF .isi [x,.ty "list"] S=.ok (.bl true) S:=fun _=>by subst hx;rfl
 have i2:∀ S,biF .isi [x,.ty "tuple"] S=.ok (.bl false) S:=fun _=>by subst hx;rfl
 have hl:∀ S,biF .len [x] S=.ok (.int n) S:=fun S=>by
   subst hx
   rw[q0h,qdh]
 have hz:∀ S,qg8 [x,x] S=.ok (vec n fun i=>.tup [g i,g i],[]) S:=fun S=>by
   subst hx
   simp [qg8,qak,M.bind]
   rw[qvj]
 unfold qj
 refine Ok.run ?_
 unfold qbf
 ((try simp);rw[qd];try simp [i1])
 ((try simp);rw[qd];try simp [i1,i2,qoq])
 ((try simp);rw[qd];try simp)
 rw[hl]
 simp
 rw[hl]
 simp
 rw[hz]
 simp
 refine⟨qsj (by omega),qvh (g:=fun _=>.bl true) qc8 (fun i hi=> ?_) ?_⟩
 · simp
   exact hg i hi _ _ ⟨rfl,rfl⟩
 · rw[qvi];simp;exact k
section
variable {S:Sto} {x y:Str} {P:D→Sto→Prop}
theorem qv4:qca .Eq (.str x) (.str y) S=.ok (.bl (decide (x=y))) S:=by
 show Out.ok (D.bl (false != decide (x=y))) S=_
 simp
theorem same_str {m:Nat} (k:P (.bl true) S):Ok (qj (m+1) [.str x,.str x] S) P:=by
 unfold qj
 refine Ok.run ?_
 unfold qbf
 have i1:∀ (b:Str) S,biF .isi [.str b,.ty "list"] S=.ok (.bl false) S:=fun _ _=>rfl
 have i2:∀ (b:Str) S,biF .isi [.str b,.ty "tuple"] S=.ok (.bl false) S:=fun _ _=>rfl
 have i3:∀ (b:Str) S,biF .isi [.str b,.ty "bool"] S=.ok (.bl false) S:=fun _ _=>rfl
 have i4:∀ (b:Str) S,biF .isi [.str b,.ty "int"] S=.ok (.bl false) S:=fun _ _=>rfl
 have i5:∀ (b:Str) S,biF .isi [.str b,.ty "str"] S=.ok (.bl true) S:=fun _ _=>rfl
 have i6:∀ (b:Str) S,qca .Is (.str b) .non S=.ok (.bl false) S:=fun _ _=>rfl
 ((try simp);rw[qd];try simp [i1,i2])
 ((try simp);rw[qd];try simp [i6])
 ((try simp);rw[qd];try simp [i3,i4,qoq])
 ((try simp);rw[qd];try simp [i5,qso])
 rw[qv4]
 simpa using k
end
theorem q0r {r:Out (Fl × Env)} (h:Ok r fun x _=>x.1=.rt (.bl true)):∃ Γ' S',r=.ok (.rt (.bl true),Γ') S':=by
 unfold Ok at h
 cases r with
 | ok a S=>obtain ⟨fl,Γ⟩:=a;cases h;exact⟨Γ,S,rfl⟩
 | err x S=>exact h.elim
 | no=>exact h.elim
theorem qv5 {ms:List Int}:qfj (qsc ms):=⟨ms,0,0,17,rfl,by decide,by decide,by decide⟩
theorem q51 {α:Type} {r:Out α} {a:α} {S:Sto} (h:Ok r fun b S'=>b=a∧S'=S):r=.ok a S:=by
 unfold Ok at h
 cases r with
 | ok b S'=>obtain ⟨rfl,rfl⟩:=h;rfl
 | err x S=>exact h.elim
 | no=>exact h.elim
section
variable {n:Nat} {t:Nat→Int} {b k:Int} {S:Sto} {P:D→Sto→Prop} {x:D}
theorem qhr (hx:qcc n t=x) (q:P (.int (sm n t+b)) S):Ok (qdj [x,.int b] S) P:=by
 refine Ok.run ?_
 unfold qkj
 have e:∀ S,biF .sum [x] S=.ok (.int (sm n t)) S:=fun S=>by subst hx;exact qoo
 ((try simp);rw[qd];try simp [e])
 exact q
theorem qv6 (hx:qcc n t=x):evB qbm qa6 qa0 [some x,some (.int b),some (.int k),none,none,none] S=.ok (decide (k < 0∨sm n t+b≤k)) S:=by
 refine q51 ?_
 unfold qa0
 simp
 refine qh9 (fun h=>.inl h) fun h=> ?_
 refine qhr hx ?_
 simp [h]
theorem qwo (hx:qcc n t=x) {v:Option D}:qhq 3 3 (evA qi qh qb7) qb6 [some x,some (.int b),some (.int k),v,none] S=if k < 0∨sm n t+b≤k then some S else none:=by
 have e:evA qi qh qb7 [some x,some (.int b),some (.int k),v,none] S=.ok [x,.int b,.int k] S:=rfl
 unfold qhq qb6 qhp
 rw[e]
 show (match evB qbm qa6 qa0 [some x,some (.int b),some (.int k),none,none,none] S with | .ok true S'=>some S' | _=>none)=_
 rw[qv6 hx]
 by_cases h:k < 0∨sm n t+b≤k
 · rw[if_pos h,decide_eq_true h]
 · rw[if_neg h,decide_eq_false h]
noncomputable def qs0:D:=.lst [.str "bad",.bl true,.bl true,.bl false]
theorem qqe (hx:qcc n t=x) (h:k < 0∨sm n t+b≤k) (q:P qs0 S):Ok (qav [x,.int b,.int k] S) P:=by
 refine Ok.run ?_
 have e1:evS qi qh qao [some x,some (.int b),some (.int k),none,none] S=.ok (.nx,[some x,some (.int b),some (.int k),some (.str "none"),none]) S:=rfl
 have e2:qau [some x,some (.int b),some (.int k),some (.str "none"),none] S=.ok (.nx,[some x,some (.int b),some (.int k),some qs0,none]) S:=by
   unfold qau qnn
   rw[qwo hx,if_pos h]
   rfl
 show Ok (seqS (evS qi qh qao) (seqS qau (qai qi qh q8)) [some x,some (.int b),some (.int k),none,none] S) _
 unfold seqS
 rw[okb,e1,qsd]
 show Ok (M.bind _ _ _) _
 rw[okb,e2,qsd]
 show Ok (qai qi qh q8 _ S) _
 unfold q8
 rw[qd]
 simp
 exact q
theorem qhs (hx:qcc n t=x) (h:¬ (k < 0∨sm n t+b≤k)) (q:Ok (qbn [x,.int b,.int k] S) P):Ok (qav [x,.int b,.int k] S) P:=by
 refine Ok.run ?_
 have e1:evS qi qh qao [some x,some (.int b),some (.int k),none,none] S=.ok (.nx,[some x,some (.int b),some (.int k),some (.str "none"),none]) S:=rfl
 have e2:qau [some x,some (.int b),some (.int k),some (.str "none"),none] S=qai qi qh qbk [some x,some (.int b),some (.int k),some (.str "none"),none] S:=by
   unfold qau qnn
   rw[qwo hx,if_neg h]
 show Ok (seqS (evS qi qh qao) (seqS qau (qai qi qh q8)) [some x,some (.int b),some (.int k),none,none] S) _
 unfold seqS
 rw[okb,e1,qsd]
 show Ok (M.bind _ _ _) _
 rw[okb,e2]
 unfold qbk
 rw[qd]
 simp
 refine Ok.mono q fun d S' hd=> ?_
 show Ok (qai qi qh q8 _ S') _
 unfold q8
 rw[qd]
 simp
 exact hd
theorem qqf (hx:qcc n t=x):qd1 [x] S=.ok (vec n fun i=>.tup [.int i,.int (t i)],[]) S:=by
 subst hx
 simp [qd1,qak,M.bind,qcc]
 rw[qsh]
theorem qcq (ht : Tix n t) {i:Nat}:∀ {j:Nat},i≤j→j≤n→sm i t≤sm j t
 | 0, h, _ => by have:i=0:=by omega
                 subst this;exact Int.le_refl _
 | j +1,h,hn=>by
   by_cases e:i=j+1
   · subst e;exact Int.le_refl _
   · have h1:=qcq ht (i:=i) (j:=j) (by omega) (by omega)
     have h2:=ht j (by omega)
     show sm i t≤sm j t+t j
     omega
theorem qjb (hx:qcc n t=x) (hn:n≤63) (ht:Tix n t) (h:¬ (k < 0∨sm n t+b≤k)) (q:∀ d,(∀ i < n,sm i t≤k→k < sm (i+1) t→d=.int i)→(sm n t≤k→d=.non)→P d S):Ok (qbn [x,.int b,.int k] S) P:=by
 refine Ok.run ?_
 unfold qc9
 ((try simp);rw[qd];try simp)
 obtain ⟨h1,h2⟩:=not_or.mp h
 rw[if_neg h1]
 refine qhr hx ?_
 simp [h2]
 unfold qds
 ((try simp);rw[qd];try simp)
 unfold qdr
 ((try simp);rw[qd];try simp)
 rw[qqf hx]
 simp
 obtain ⟨J,hJ⟩:∃ J:Nat→Env→Sto→Prop,∀ i Γ S',J i Γ S'↔(S'=S∧i≤n∧sm i t≤k∧∃ v4 v5,Γ=[some x,some (.int b),some (.int k),some (.int (sm i t)),v4,v5]):=⟨_,fun _ _ _=>Iff.rfl⟩
 refine qcn (Iv:=J) ((hJ _ _ _).mpr ⟨rfl,Nat.zero_le _,by show (0:Int)≤k;omega,none,none,rfl⟩) (fun i Γ S' _=>qc8) (fun i d Γ S' hd hi=> ?_) fun Γ S' hi=> ?_
 · obtain ⟨rfl,hin,hk,v4,v5,rfl⟩:=(hJ _ _ _).mp hi
   have hi:i < n:=by have:=(List.getElem?_eq_some_iff.mp hd).1;simpa using this
   rw[qfl hi]at hd
   cases hd
   simp
   unfold qdp
   ((try simp);rw[qd];try simp)
   unfold qdo
   ((try simp);rw[qd];try simp)
   have e1:sm (i+1) t=sm i t+t i:=rfl
   refine qh9 (fun hlt=> ?_) fun hlt=> ?_
   · rw [qd]
     simp
     refine q _ (fun j hj a1 a2=> ?_) fun a1=> ?_
     · have:j=i:=by
         rcases Nat.lt_trichotomy i j with c | c | c
         · have:=qcq ht (i:=i+1) (j:=j) (by omega) (by omega);omega
         · exact c.symm
         · have:=qcq ht (i:=j+1) (j:=i) (by omega) (by omega);omega
       rw[this]
     · have:=qcq ht (i:=i+1) (j:=n) (by omega) (by omega);omega
   · exact(hJ _ _ _).mpr ⟨rfl,by omega,by omega,_,_,rfl⟩
 · obtain ⟨rfl,hin,hk,v4,v5,rfl⟩:=(hJ _ _ _).mp hi
   rw[qdh]at hk
   rw[qja]
   unfold qdq
   rw[qd]
   simp
   refine q _ (fun j hj a1 a2=> ?_) fun _=>rfl
   have:=qcq ht (i:=j+1) (j:=n) (by omega) (by omega);omega
theorem qs1 (hx:qcc n t=x) (hn:n≤63) (ht:Tix n t) (hb:0≤b) {i:Nat} (hi:i < n) (h1:sm i t≤k) (h2:k < sm (i+1) t) (q:P (.int i) S):Ok (qav [x,.int b,.int k] S) P:=by
 have a0:(0:Int)≤sm i t:=by have:=qcq ht (i:=0) (j:=i) (by omega) (by omega);exact this
 have a1:=qcq ht (i:=i+1) (j:=n) (by omega) (by omega)
 have hh:¬ (k < 0∨sm n t+b≤k):=by omega
 exact qhs hx hh (qjb hx hn ht hh fun d e1 _=>by rw[e1 i hi h1 h2];exact q)
theorem qs2 (hx:qcc n t=x) (hn:n≤63) (ht:Tix n t) (h1:sm n t≤k) (h2:k < sm n t+b) (q:P .non S):Ok (qav [x,.int b,.int k] S) P:=by
 have a0:(0:Int)≤sm n t:=by have:=qcq ht (i:=0) (j:=n) (by omega) (by omega);exact this
 have hh:¬ (k < 0∨sm n t+b≤k):=by omega
 exact qhs hx hh (qjb hx hn ht hh fun d _ e2=>by rw[e2 h1];exact q)
end
theorem qs3 {m:Nat} {a:Bool} {S:Sto} {P:D→Sto→Prop} (k:P (.bl true) S):Ok (qj (m+1) [.bl a,.bl a] S) P:=by
 unfold qj
 refine Ok.run ?_
 unfold qbf
 have i1:∀ (b:Bool) S,biF .isi [.bl b,.ty "list"] S=.ok (.bl false) S:=fun _ _=>rfl
 have i2:∀ (b:Bool) S,biF .isi [.bl b,.ty "tuple"] S=.ok (.bl false) S:=fun _ _=>rfl
 have i3:∀ (b:Bool) S,biF .isi [.bl b,.ty "bool"] S=.ok (.bl true) S:=fun _ _=>rfl
 have i4:∀ (b:Bool) S,biF .isi [.bl b,.ty "int"] S=.ok (.bl true) S:=fun _ _=>rfl
 have i5:∀ (b:Bool) S,biF .isi [.bl b,.ty "str"] S=.ok (.bl false) S:=fun _ _=>rfl
 have i6:∀ (b:Bool) S,qca .Is (.bl b) .non S=.ok (.bl false) S:=fun _ _=>rfl
 ((try simp);rw[qd];try simp [i1,i2])
 ((try simp);rw[qd];try simp [i6])
 ((try simp);rw[qd];try simp [i3,i4,qoq])
 ((try simp);rw[qd];try simp [i5,qso])
 exact k
noncomputable def qwp (i:Nat):D:=if i=0 then .str "bad" else .bl (decide (i < 3))
theorem qs4 {S:Sto} {P:D→Sto→Prop} {y:D} (hy:qs0=y) (k:P (.bl true) S):Ok (qj 5 [y,y] S) P:=by
 refine qsz (m:=3) (n:=4) (g:=qwp) (by rw[← hy];rfl) (by decide) (fun i hi S P k=> ?_) k
 unfold qwp
 split
 · exact same_str k
 · exact qs3 k
theorem qs5 {S:Sto} {P:D→Sto→Prop} (k:P (.bl true) S):Ok (qj 5 [.non,.non] S) P:=by
 have e:qj 5 [.non,.non] S=.ok (.bl true) S:=by rfl
 rw[e];exact k
theorem qno (a:Addr) (ms:List Int) (Q:Fl × Env→Sto→Prop) (hR:∀ Γ S,Q (.rt (.bl true),Γ) S):Ok (qai qa7 qax qdk (some (.at_ a)::some (.ref 0)::List.replicate 8 none) [qsc ms]) Q:=by
 unfold qdk
 ((try simp);rw[qd];try simp)
 refine qal qv5 (by decide) (by decide) fun sz c1 s0 s1 hc1=> ?_
 obtain ⟨n,rfl⟩:=Int.eq_ofNat_of_zero_le s0
 refine qih hc1 (by omega) fun t c2 X1 ht hc2=> ?_
 generalize hz:qcc n t=z
 ((try simp);rw[qd];try simp)
 refine qal hc2 (by decide) (by decide) fun q c3 q0 q1 hc3=> ?_
 simp [qkd]
 refine qal hc3 (by decide) (by decide) fun p c4 p0 p1 hc4=> ?_
 obtain ⟨b,e1,b0,b1⟩:∃ b:Int,atI [D.int 0,.int 1,.int q,.int 1000] p=some (.int b)∧0≤b∧b≤1000:=by
   have:p=0∨p=1∨p=2∨p=3:=by omega
   rcases this with rfl | rfl | rfl | rfl
   · exact⟨0,by simp,by decide,by decide⟩
   · exact⟨1,by simp,by decide,by decide⟩
   · exact⟨q,by simp,by omega,by omega⟩
   · exact⟨1000,by simp,by decide,by decide⟩
 simp [e1]
 ((try simp);rw[qd];try simp)
 rw[qp6 hz]
 have es:∀ S,biF .sum [z] S=.ok (.int (sm n t)) S:=fun S=>by subst hz;exact qoo
 have ez:∀ S,qca .Eq z z S=.ok (.bl true) S:=fun S=>eq_self (by subst hz;exact qsm) (by subst hz;exact Nat.le_trans qsn (by decide))
 have ex:∀ (i:Nat) S,i < n→ixM (look z S) (.int i) S=.ok (.int (t i)) S:=fun i S hi=>by
   subst hz
   show ixM (.lst (vec n fun i=>.int (t i))) (.int i) S=_
   simp [qve hi]
 have n12:n≤12:=by omega
 simp
 ((try simp);rw[qd];try simp [es])
 ((try simp);rw[qd];try simp)
 refine qhr hz ?_
 refine same_int (m:=4) ?_
 simp
 ((try simp);rw[qd];try simp)
 ((try simp);rw[qd];try simp)
 rw[qsk hz]
 simp
 rw[qke (qol (show n≤20 by omega)),show ((n:Int).toNat)=n from rfl,qon]
 simp
 obtain ⟨J,hJ⟩:∃ J:Nat→Env→Sto→Prop,∀ i Γ S',J i Γ S'↔(∃ (c:Cell) (T:Sto) (v7 v8 v9:Option D),S'=c::T∧qfj c∧Γ=[some (.at_ a),some (.ref 0),some z,some (.int b),some z,some (.int (sm n t+b)),some (.int (sm i t)),v7,v8,v9]):=⟨_,fun _ _ _=>Iff.rfl⟩
 refine qcn (Iv:=J) ((hJ _ _ _).mpr ⟨_,_,none,none,none,rfl,hc4,rfl⟩) (fun i Γ S' _=>qc8) (fun i d Γ S' hd h=> ?_) fun Γ S' h=> ?_
 · obtain ⟨c,T,v7,v8,v9,rfl,hc,rfl⟩:=(hJ _ _ _).mp h
   have hi:i < n:=by have:=(List.getElem?_eq_some_iff.mp hd).1;simpa using this
   rw[qfl hi]at hd
   cases hd
   simp
   obtain ⟨t1,t2⟩:=ht i hi
   have e2:sm (i+1) t=sm i t+t i:=rfl
   ((try simp);rw[qd];try simp [ex i _ hi])
   refine qal hc t1 (by omega) fun r c5 r0 r1 hc5=> ?_
   simp
   ((try simp);rw[qd];try simp [ex i _ hi])
   obtain ⟨J2,hJ2⟩:∃ J2:Nat→Env→Sto→Prop,∀ j Γ S',J2 j Γ S'↔(S'=c5::T∧∃ (v9:Option D),Γ=[some (.at_ a),some (.ref 0),some z,some (.int b),some z,some (.int (sm n t+b)),some (.int (sm i t)),some (.int i),some (.int (sm i t+r)),v9]):=⟨_,fun _ _ _=>Iff.rfl⟩
   refine qcn (Iv:=J2) ((hJ2 _ _ _).mpr ⟨rfl,v9,rfl⟩) (fun i Γ S' _=>qc8) (fun j d Γ S' hd hj=> ?_) fun Γ S' hj=> ?_
   · obtain ⟨rfl,v,rfl⟩:=(hJ2 _ _ _).mp hj
     obtain ⟨k,rfl,k0,k1⟩:∃ k:Int,d=.int k∧sm i t≤k∧k < sm (i+1) t:=by
       match j,hd with
       | 0,hd=>cases hd;exact⟨_,rfl,by omega,by omega⟩
       | 1,hd=>cases hd;exact⟨_,rfl,by omega,by omega⟩
       | 2,hd=>cases hd;exact⟨_,rfl,by omega,by omega⟩
       | j+3,hd=>simp at hd
     simp
     ((try simp);rw[qd];try simp)
     refine qs1 hz (by omega) ht b0 hi k0 k1 ?_
     refine same_int (m:=4) ?_
     simp
     exact(hJ2 _ _ _).mpr ⟨rfl,_,rfl⟩
   · obtain ⟨rfl,v,rfl⟩:=(hJ2 _ _ _).mp hj
     rw[qja]
     ((try simp);rw[qd];try simp [ex i _ hi])
     exact(hJ _ _ _).mpr ⟨_,_,_,_,_,rfl,hc5,rfl⟩
 · obtain ⟨c,T,v7,v8,v9,rfl,hc,rfl⟩:=(hJ _ _ _).mp h
   rw[qdh,qja]
   clear hJ J h
   rw[qd]
   obtain ⟨J,hJ⟩:∃ J:Fl × Env→Sto→Prop,∀ r S',J r S'↔∃ (c:Cell) (T:Sto) (v9:Option D),S'=c::T∧qfj c∧r=(.nx,[some (.at_ a),some (.ref 0),some z,some (.int b),some z,some (.int (sm n t+b)),some (.int (sm n t)),v7,v8,v9]):=⟨_,fun _ _=>Iff.rfl⟩
   refine Ok.mono (Q:=J) ?_ ?_
   · simp
     refine qh9 (fun hb=> ?_) fun hb=> ?_
     · ((try simp);rw[qd];try simp)
       refine qal hc (by omega) (by omega) fun r c5 r0 r1 hc5=> ?_
       simp [show sizeOk 3=true by decide]
       obtain ⟨J2,hJ2⟩:∃ J2:Nat→Env→Sto→Prop,∀ j Γ S',J2 j Γ S'↔(S'=c5::T∧∃ (v9:Option D),Γ=[some (.at_ a),some (.ref 0),some z,some (.int b),some z,some (.int (sm n t+b)),some (.int (sm n t)),v7,v8,v9]):=⟨_,fun _ _ _=>Iff.rfl⟩
       refine qcn (Iv:=J2) ((hJ2 _ _ _).mpr ⟨rfl,v9,rfl⟩) (fun i Γ S' _=>qc8) (fun j d Γ S' hd hj=> ?_) fun Γ S' hj=> ?_
       · obtain ⟨rfl,v,rfl⟩:=(hJ2 _ _ _).mp hj
         obtain ⟨k,rfl,k0,k1⟩:∃ k:Int,d=.int k∧sm n t≤k∧k < sm n t+b:=by
           match j,hd with
           | 0,hd=>cases hd;exact⟨_,rfl,by omega,by omega⟩
           | 1,hd=>cases hd;exact⟨_,rfl,by omega,by omega⟩
           | 2,hd=>cases hd;exact⟨_,rfl,by omega,by omega⟩
           | j+3,hd=>simp at hd
         simp
         ((try simp);rw[qd];try simp)
         refine qs2 hz (by omega) ht k0 k1 ?_
         refine qs5 ?_
         simp
         exact(hJ2 _ _ _).mpr ⟨rfl,_,rfl⟩
       · obtain ⟨rfl,v,rfl⟩:=(hJ2 _ _ _).mp hj
         simp
         exact(hJ _ _).mpr ⟨_,_,_,rfl,hc5,rfl⟩
     · exact(hJ _ _).mpr ⟨_,_,_,rfl,hc,rfl⟩
   · intro r S' h
     obtain ⟨c,T,v9,rfl,hc,rfl⟩:=(hJ _ _).mp h
     clear h hJ J
     rw[qja]
     ((try simp);rw[qd];try simp)
     refine qlx hc fun g1 c5 g10 g11 hc5=> ?_
     simp
     refine qlx hc5 fun g2 c6 g20 g21 hc6=> ?_
     simp [show sizeOk 4=true by decide]
     have a0:(0:Int)≤sm n t:=by have:=qcq ht (i:=0) (j:=n) (by omega) (by omega);exact this
     obtain ⟨J2,hJ2⟩:∃ J2:Nat→Env→Sto→Prop,∀ j Γ S',J2 j Γ S'↔(S'=c6::T∧∃ (v9:Option D),Γ=[some (.at_ a),some (.ref 0),some z,some (.int b),some z,some (.int (sm n t+b)),some (.int (sm n t)),v7,v8,v9]):=⟨_,fun _ _ _=>Iff.rfl⟩
     refine qcn (Iv:=J2) ((hJ2 _ _ _).mpr ⟨rfl,v9,rfl⟩) (fun i Γ S' _=>qc8) (fun j d Γ S' hd hj=> ?_) fun Γ S' hj=> ?_
     · obtain ⟨rfl,v,rfl⟩:=(hJ2 _ _ _).mp hj
       obtain ⟨k,rfl,k0⟩:∃ k:Int,d=.int k∧(k < 0∨sm n t+b≤k):=by
         match j,hd with
         | 0,hd=>cases hd;exact⟨_,rfl,by omega⟩
         | 1,hd=>cases hd;exact⟨_,rfl,by omega⟩
         | 2,hd=>cases hd;exact⟨_,rfl,by omega⟩
         | 3,hd=>cases hd;exact⟨_,rfl,by omega⟩
         | j+4,hd=>simp at hd
       simp
       ((try simp);rw[qd];try simp)
       refine qqe hz k0 ?_
       have hm:∀ S,mkL false [.str "bad",.bl true,.bl true,.bl false] S=.ok qs0 S:=fun S=>by rw[qkd (by decide)];rfl
       simp [hm]
       generalize hy:qs0=y
       refine qs4 hy ?_
       simp
       exact(hJ2 _ _ _).mpr ⟨rfl,_,rfl⟩
     · obtain ⟨rfl,v,rfl⟩:=(hJ2 _ _ _).mp hj
       rw[qja]
       rw[qd]
       simp [ez]
       exact hR _ _
theorem qkq (a:Addr) (ms:List Int):∃ Γ' S',qai qa7 qax qdk (some (.at_ a)::some (.ref 0)::List.replicate 8 none) [qsc ms]=.ok (.rt (.bl true),Γ') S':=q0r (qno a ms _ fun _ _=>rfl)
noncomputable def qkr (s:Stmt):List Stmt:=match s with
 | .ClassDef _ _ _ b _ _ _ _ _ _ _=>b
 | _=>[]
section
variable {K:PySem.W.Frag} {C O f N:Addr} {nm qn:Str} {bs bm:List Value} {hdct:Bool} {sn:List Str} {sub:List Value} {ab:Bool} {col:Option Bool} {dd:Option Addr} {k0 k1 k2 k3 k5:Option Value}
theorem qv7 {h:Heap} {N:Addr} {m:Str→Option Value} {n:Str} {v:Value} (X:K.In h) (G:h.Ns N m) (e:PySem.W.nsIn K N n=some (some v)):m n=some v:=by
 obtain ⟨o,es,ep,ho,hd,_,hf⟩:=G
 unfold PySem.W.nsIn at e
 split at e
 · rename_i c d es' n' sl q
   have:=X _ _ q
   rw[ho]at this
   cases this
   cases hd
   split at e
   · rename_i en he
     cases e
     rw[← hf]
     unfold nsFind findBy
     rw[← Array.find?_toList,he]
     rfl
   · split at e <;> cases e
 · cases e
theorem qv8 {c:Value} {d:Option Addr} {es:Array DictEntry} {n:Nat} {sl:Array (Option Value)} (lk:K.lookup N=some ⟨c,d,.dict es n,sl⟩) (h:(es.toList.all fun e=>match e.key with | .str _ _=>true | _=>false)=true):PySem.W.nsOkIn K N=true:=by
 unfold PySem.W.nsOkIn
 rw[lk]
 show Array.all es _=true
 rw[← Array.all_toList]
 exact h
theorem q0s {fd:FuncData} {p1 p2:Str} (h:∀ a b S,PySem.W.peek K S (bindArgs fd ⟨[a,b],[]⟩)=some ([p1,p2].zip [a,b])):Binds K fd [p1,p2] []:=fun s us X hl=>by
 rw[List.append_nil]at hl ⊢
 exact qne (P:=fun us=>BindsTo s fd ⟨us,[]⟩ ([p1,p2].zip us)) (fun a b=>PySem.W.kp_binds X (h a b)) us hl
theorem q0t {fd:FuncData} {p1 p2 p3:Str} (h:∀ a b c S,PySem.W.peek K S (bindArgs fd ⟨[a,b,c],[]⟩)=some ([p1,p2,p3].zip [a,b,c])):Binds K fd [p1,p2,p3] []:=fun s us X hl=>by
 rw[List.append_nil]at hl ⊢
 exact qvb (P:=fun us=>BindsTo s fd ⟨us,[]⟩ ([p1,p2,p3].zip us)) (fun a b c=>PySem.W.kp_binds X (h a b c)) us hl
theorem qs6 {fd:FuncData} {od:Option Addr} {sl:Array (Option Value)} (lk:K.lookup C=some (qcf nm qn C N bs bm hdct sn sub ab col dd k0 k1 k2 k3 k5)) (B:Above bm) (hok:PySem.W.nsOkIn K N=true) (hi:PySem.W.nsIn K N "__init__"=some (some (.ref f)))
   (lf:K.lookup f=some ⟨.type "function",od,.func fd,sl⟩) (kp:PySem.W.keepIn K (.ref C)=true):qdn K C f where
 obj:=fun h X=>⟨nm,qn,N,bs,bm,hdct,sn,sub,ab,col,dd,k0,k1,k2,k3,k5,h.nsMap N,X _ _ lk,B,.of_isNs (PySem.W.isNs_of_in X hok),qv7 X (.of_isNs (PySem.W.isNs_of_in X hok)) hi⟩
 fn:=fun h X=>⟨_,X _ _ lf,rfl⟩
 kp:=kp
theorem qs7 {nm' qn':Str} {N':Addr} {bs' bm':List Value} {hdct':Bool} {sn':List Str} {sub':List Value} {ab':Bool} {col':Option Bool} {dd':Option Addr} {k0' k1' k2' k3' k5':Option Value}
   (lk:K.lookup C=some (qcf nm qn C N bs bm hdct sn sub ab col dd k0 k1 k2 k3 k5)) (hc:(Value.ref C::bm).contains (.ref O)=true) (lo:K.lookup O=some (qcf nm' qn' O N' bs' bm' hdct' sn' sub' ab' col' dd' k0' k1' k2' k3' k5')) (B:Above bm'):qho K C O where
 lo:=fun h X=>⟨nm,qn,N,bs,bm,hdct,sn,sub,ab,col,dd,k0,k1,k2,k3,k5,X _ _ lk,hc⟩
 hi:=fun h X=>⟨nm',qn',N',bs',bm',hdct',sn',sub',ab',col',dd',k0',k1',k2',k3',k5',X _ _ lo,B⟩
end
section
variable {P:Program} {w:World} {K:PySem.W.Frag} {mg:Str→Option Value} {base:Heap} {Φ:List Fd}
theorem q0u {x qual xc z:Str} {st:Stmt} {f C fi:Addr} {fd fdi:FuncData} {N ps:List Str} {k ki:Nat} {c:Expr} {cb:CB} {els rest:List Stmt} {p pz cpos pos pos':Pos} {tk:Nat} {fns:List (Str × Nat × Nat)} {bs:List Str} {md:Md} (F:Fun K x qual st f fd) (S:qaf N ps (qa st))
   (hst:qo st=.If c [.Raise (some (.Call (.Name xc p) [.Constant (.str z) tk pz] [] cpos)) none pos] els pos'::rest) (hc:qfg ⟨N,qa st,fun _=>true,fns,k,bs,md⟩ cb c=true) (hg:qcm ⟨N,qa st,fun _=>true,fns,k,bs,md⟩ xc=true) (hb:∀ b ∈ bs,mg b=none) (hm:qf9 P w K mg md) (hF:FT CX0 P w K mg base fns Φ)
   (hmc:mg xc=some (.ref C)) (M:qdn K C fi) (FI:qap P w K mg base CX0 ki fi fdi ["self","why"] (spB C)) (hki:ki+1≤k) (hbi:Binds K fdi ["self","why"] []) :
   qap P w K mg base (CXe P w) (k+1) f fd ps (spR ps.length (N.length - ps.length) C (qhp (evB Φ fns cb))):=by
 refine q50 F S fun cdv A outer s H E hr=> ?_
 rw[hst]
 have G:Gd CX0 Φ ⟨N,qa st,fun _=>true,fns,k,bs,md⟩ (qay (CXe P w) P w K mg base N qual (qa st) f cdv A outer s H E).nox E0:=qvw S rfl rfl rfl hr hb hm hF
 obtain ⟨g1,g2⟩:=qcp (X:=qay (CXe P w) P w K mg base N qual (qa st) f cdv A outer s H E) (s:=⟨N,qa st,fun _=>true,fns,k,bs,md⟩) rfl hg
 exact q3u (PT.nox (sB nw0 cb G hc)) (q3t qqa rfl M FI hr hki g1 hmc hbi g2 rfl)
end
section
variable {X:Cx} {i j:Nat} {x e y:Str} {v:Value} {p1 p2 p3 p4:Pos} {es:List Expr} {ta:TA} {us:List V} {C:Addr}
noncomputable def qqg (K:PySem.W.Frag) (i:Nat) (v:V):TE:=tCB (q3s K) (qqs (qgo i) (qqs (tC v) qxn))
theorem q0v {D:Addr} (hi:X.N[i]? =some e) (he:Vis X.env.scope e) (h1:(e==("__debug__":Str))=false) (h2:(e==("__classdict__":Str))=false) (hg:Gl X "isinstance") (hm:X.mg "isinstance"=none) (hgx:Gl X x) (hmx:X.mg x=some (.ref D)) (hdx:(x==("__debug__":Str))=false) :
   PE X (.Call (.Name "isinstance" p1) [.Name e p2,.Name x p3] [] p4) (qqg X.K i (.ref D)) :=
 qei ql0 hg hm qb8 (qq (qex hi he h1 h2) (qq (qtc hgx hmx rfl hdx) qbo rfl) rfl) (by decide) (by decide) rfl rfl
theorem q0w (hi:X.N[i]? =some e) (he:Vis X.env.scope e) (h1:(e==("__debug__":Str))=false) (h2:(e==("__classdict__":Str))=false) (hg:Gl X "isinstance") (hm:X.mg "isinstance"=none) (hgx:Gl X "ValueError") (hmx:X.mg "ValueError"=none) :
   PE X (.Call (.Name "isinstance" p1) [.Name e p2,.Name "ValueError" p3] [] p4) (qqg X.K i (.ty "ValueError")) :=
 qei ql0 hg hm qb8 (qq (qex hi he h1 h2) (qq (qnq hgx hmx qwn rfl) qbo rfl) rfl) (by decide) (by decide) rfl rfl
theorem qot {K:PySem.W.Frag} {σ:St} {H:Hp} {a D:Addr} {b:Bool} {Q:VK} (S:qf1 K C) (e:PySem.W.kitOne K (.ref C) (.ref D)=some b) (h1:H a=some (exA C a)) (h2:σ[i]? =some (some (.ref a))) (q:Q (.bl b) H):qqg K i (.ref D) σ H Q :=
 ⟨.ref a,h2,a,C,.ref D,.ref D,b,rfl,.inl ⟨D,rfl,rfl⟩,h1,S,e,q⟩
theorem q0x {K:PySem.W.Frag} {σ:St} {H:Hp} {a:Addr} {n:String} {b:Bool} {Q:VK} (S:qf1 K C) (e:PySem.W.kitOne K (.ref C) (.type n)=some b) (h1:H a=some (exA C a)) (h2:σ[i]? =some (some (.ref a))) (q:Q (.bl b) H):qqg K i (.ty n) σ H Q :=
 ⟨.ref a,h2,a,C,.ty n,.type n,b,rfl,.inr ⟨n,rfl,rfl⟩,h1,S,e,q⟩
theorem qqh {σ:St} {H:Hp} {D:Ends} (hu:us.length≤100) (h:∀ Q:List V→Hp→Prop,Q us H→ta σ H Q) (q:∀ p,H p=none→D.nx (σ.set j (some (.ref p))) (upd H p (.lst us))):qoy (qxo ta) (qij j) D σ H :=
 h _ ⟨Nat.le_trans hu (by rw[sizeLine_eq];decide),fun p hp=>q p hp⟩
end
structure Rd0 (X:Cx) (K:PySem.W.Frag) (mg:Str→Option Value) (s:Sx):Prop where
 N:X.N=s.N
 sc:X.env.scope=s.sc
 K:X.K=K
 mg:X.mg=mg
 fn:X.fn=fun _=>true
 nd:s.N.Nodup
section
variable {X:Cx} {K:PySem.W.Frag} {mg:Str→Option Value} {s:Sx} {i j:Nat} {x e y:Str} {p1 p2 p3 p4:Pos} {es:List Expr} {ta:TA}
theorem Rd0.isx {D:Addr} (R:Rd0 X K mg s) (he:qaq s i e=true) (hi:qcm s "isinstance"=true) (hx:qcm s x=true) (m1:mg "isinstance"=none) (m2:mg x=some (.ref D)):PE X (.Call (.Name "isinstance" p1) [.Name e p2,.Name x p3] [] p4) (qqg K i (.ref D)):=by
 obtain ⟨a1,a2⟩:=qcp (X:=X) R.sc hi
 obtain ⟨b1,b2⟩:=qcp (X:=X) R.sc hx
 unfold qaq at he
 simp only [Bool.and_eq_true,Bool.not_eq_true',decide_eq_true_eq]at he
 have:=q0v (X:=X) (i:=i) (D:=D) (p1:=p1) (p2:=p2) (p3:=p3) (p4:=p4) (by rw[R.N];exact he.1.1.1) (by rw[R.sc];exact qhi he.1.1.2) he.1.2 he.2 a1 (by rw[R.mg];exact m1) b1 (by rw[R.mg];exact m2) b2
 rw[R.K]at this
 exact this
theorem Rd0.isv (R:Rd0 X K mg s) (he:qaq s i e=true) (hi:qcm s "isinstance"=true) (hx:qcm s "ValueError"=true) (m1:mg "isinstance"=none) (m2:mg "ValueError"=none):PE X (.Call (.Name "isinstance" p1) [.Name e p2,.Name "ValueError" p3] [] p4) (qqg K i (.ty "ValueError")):=by
 obtain ⟨a1,a2⟩:=qcp (X:=X) R.sc hi
 obtain ⟨b1,b2⟩:=qcp (X:=X) R.sc hx
 unfold qaq at he
 simp only [Bool.and_eq_true,Bool.not_eq_true',decide_eq_true_eq]at he
 have:=q0w (X:=X) (i:=i) (p1:=p1) (p2:=p2) (p3:=p3) (p4:=p4) (by rw[R.N];exact he.1.1.1) (by rw[R.sc];exact qhi he.1.1.2) he.1.2 he.2 a1 (by rw[R.mg];exact m1) b1 (by rw[R.mg];exact m2)
 rw[R.K]at this
 exact this
theorem Rd0.suite (R:Rd0 X K mg s) (hj:qet s j y=true) (ha:PA X es ta):PSs X [.Assign [.Name y p1] (.List es p2) p3] (qoy (qxo ta) (qij j)):=by
 unfold qet at hj
 simp only [Bool.and_eq_true,decide_eq_true_eq,Bool.or_eq_true]at hj
 exact qeg (qmh (by rw[R.N];exact R.nd) (by rw[R.N];exact hj.1.1) (by rw[R.sc];exact qsa hj.1.2) (qmq ha) (qc5 rfl) (.inl (by rw[R.fn])))
end
section
variable {P:Program} {w:World} {K:PySem.W.Frag} {mg:Str→Option Value} {base:Heap} {Φ:List Fd}
variable {x n g y:Str} {C O:Addr} {i j m:Nat} {np pos:Pos} {b₀:Stmt} {suite post:List Stmt} {rest:List ExceptHandler} {ts:TS} {gz:Env→Sto→Option Sto} {hs:List D} {us:List V}
variable {k kr:Nat} {f fr:Addr} {fd fdr:FuncData} {N ps psr:List Str} {e:Expr} {es:List Expr} {py p pc pa hp:Pos} {nm qual:Str} {st s0 s1:Stmt} {fns:List (Str × Nat × Nat)} {bs:List Str} {md:Md} {p0 p1:CS} {cb cz:CSL} {ca:CL}
structure q0y (P:Program) (w:World) (K:PySem.W.Frag) (mg:Str→Option Value) (base:Heap) (sx:Sx) (C O:Addr) (psr:List Str) (m:Nat) (gz:Env→Sto→Option Sto) (x n g y:Str) (i j:Nat) (b₀:Stmt) (suite:List Stmt) (hs:List D) (e:Expr) (es:List Expr) (cb:CSL) (ca:CL) (py p pc pa:Pos):Prop where
 fn:∃ kr fr fdr,qap P w K mg base (CXe P w) kr fr fdr psr (spR psr.length m C gz)∧kr≤sx.L∧mg g=some (.ref fr)∧PySem.W.keepIn K (.ref fr)=true∧Binds K fdr psr []
 hit:qho K C O
 mx:mg x=some (.ref O)
 ggl:qcm sx g=true
 xgl:qcm sx x=true
 ei:qaq sx i n=true
 el:lcl sx.sc n=true
 ca:qdl sx ca (e::es)=true
 cb:qfh sx cb [.Assign [.Name y py] (.Call (.Name g p) (e::es) [] pc) pa]=true
 ns:(e::es).all notStar=true
 su:∃ ts us,(∀ X,Rd0 X K mg sx→PSs X (b₀::suite) ts)∧(∀ D σ H a,H a=some (exA C a)→σ[i]? =some (some (.ref a))→(∀ q,H q=none→D.nx (σ.set j (some (.ref q))) (upd H q (.lst us)))→ts D σ H)∧∀ w H,qb w H hs us
 ne:j ≠ i
theorem q0y.run {sc:Scope} {cdv:Value} {A:Around} {outer:List PySem.Env} {s:Shared} {H:Hp} {E:XK} (T:q0y P w K mg base ⟨N,sc,fun _=>true,fns,k,bs,md⟩ C O psr m gz x n g y i j b₀ suite hs e es cb ca py p pc pa) (S:qaf N ps sc)
   (hr:qam k (A.deeper (envOfC qual sc s.heap.objs.size f cdv))) (hb:∀ b ∈ bs,mg b=none) (hm:qf9 P w K mg md) (hF:FT CX0 P w K mg base fns Φ) :
   PS (qay CX0 P w K mg base N qual sc f cdv A outer s H E).nox (.Try [.Assign [.Name y py] (.Call (.Name g p) (e::es) [] pc) pa] (.ExceptHandler (some (.Name x np)) (some n) (b₀::suite) hp::rest) [] [] pos) (tS (xw E) (qnn psr.length m (evA Φ fns ca) gz i j hs (qai Φ fns cb))):=by
 have G:Gd CX0 Φ ⟨N,sc,fun _=>true,fns,k,bs,md⟩ (qay CX0 P w K mg base N qual sc f cdv A outer s H E).nox E:=qhj S rfl rfl rfl hr hb hm hF
 obtain ⟨kr,fr,fdr,FR,hkr,hmg,hkp,hbd⟩:=T.fn
 obtain ⟨ts,us,hs1,hs2,hus⟩:=T.su
 obtain ⟨a1,a2⟩:=qcp (X:=(qay CX0 P w K mg base N qual sc f cdv A outer s H E).nox) (s:=⟨N,sc,fun _=>true,fns,k,bs,md⟩) rfl T.ggl
 obtain ⟨b1,b2⟩:=qcp (X:=(qay CX0 P w K mg base N qual sc f cdv A outer s H E).nox) (s:=⟨N,sc,fun _=>true,fns,k,bs,md⟩) rfl T.xgl
 have hn:=T.ei
 unfold qaq at hn
 simp only [Bool.and_eq_true,Bool.not_eq_true',decide_eq_true_eq]at hn
 have hl:sc.names.lookup n=some .local:=by have:=T.el;unfold lcl at this;simpa using this
 have hns:=T.ns
 rw[List.all_cons,Bool.and_eq_true]at hns
 exact q3v rfl rfl rfl FR hr hkr a1 hmg hkp hbd (sA nw0 ca G T.ca) a2 (qr hns.1) (qc4 hns.2) (qc5 rfl) T.hit b1 T.mx S.nd hn.1.1.1 hl b2 (sL nw0 cb G T.cb) (fun v=>hs1 _ ⟨rfl,rfl,rfl,rfl,rfl,S.nd⟩) hs2 hus T.ne
theorem qs8 (F:Fun K nm qual st f fd) (S:qaf N ps (qa st)) (hst:qo st=s0::.Try [.Assign [.Name y py] (.Call (.Name g p) (e::es) [] pc) pa] (.ExceptHandler (some (.Name x np)) (some n) (b₀::suite) hp::rest) [] [] pos::post) (hb:∀ b ∈ bs,mg b=none) (hm:qf9 P w K mg md) (hF:FT CX0 P w K mg base fns Φ)
   (h0:q0b ⟨N,qa st,fun _=>true,fns,k,bs,md⟩ p0 s0=true) (hz:qfh ⟨N,qa st,fun _=>true,fns,k,bs,md⟩ cz post=true)
   (T:q0y P w K mg base ⟨N,qa st,fun _=>true,fns,k,bs,md⟩ C O psr m gz x n g y i j b₀ suite hs e es cb ca py p pc pa) :
   qap P w K mg base CX0 (k+1) f fd ps (spT ps.length (qd2 (seqS (evS Φ fns p0) (seqS (qnn psr.length m (evA Φ fns ca) gz i j hs (qai Φ fns cb)) (qai Φ fns cz))) (N.length - ps.length))) :=
 q29 F S fun cdv A outer s H E hr=>by
   have G:Gd CX0 Φ ⟨N,qa st,fun _=>true,fns,k,bs,md⟩ (qay CX0 P w K mg base N qual (qa st) f cdv A outer s H E).nox E:=qhj S rfl rfl rfl hr hb hm hF
   rw[hst]
   exact qm2 (sS nw0 p0 G h0) (qm2 (T.run S hr hb hm hF) (sL nw0 cz G hz))
end
end T3
set_option maxHeartbeats 4000000
namespace K02
open PySem PySem.Spec PyProof.Rows L2 T3
noncomputable def top (i : Nat) : Stmt := PySem.Challenge.pw_outlivers_k02_whose_ticket_it_is.main.body.getD i (.Pass ⟨0, 0, 0, 0⟩)
noncomputable def bs:List Str:=["sum","enumerate","list","len","range","isinstance","tuple","all","zip","int","bool","str","ValueError"]
noncomputable abbrev qou:Stmt:=top 5
noncomputable abbrev qda:Stmt:=top 6
noncomputable abbrev qfn:Stmt:=top 8
noncomputable abbrev qht:Stmt:=top 9
noncomputable abbrev qf2:Stmt:=top 10
noncomputable abbrev qee:Stmt:=top 11
noncomputable abbrev qch:Stmt:=top 12
noncomputable abbrev qf3:Stmt:=top 13
noncomputable abbrev qhu:Stmt:=top 14
section
variable {P:Program} {w:World} {K:PySem.W.Frag} {mg:Str→Option Value} {base:Heap}
theorem qnp {f:Addr} {fd:FuncData} (F:Fun K "_law_box" "_law_box" qfn f fd) (hz:mg "list"=none):qap P w K mg base CX0 1 f fd ["_law_script"] (T3.sp_box K):=by
 refine F.ok (qb4 (N:=["_law_script"]) (by decide +kernel)) (fun vs H Q E h=> ?_) (fun cdv A outer s H vs Q E hr h=> ?_)
 · obtain ⟨a,ns,rfl,_⟩:=h
   rfl
 · obtain ⟨a,ns,rfl,hS,hl,k⟩:=h
   refine⟨_,(qeg (qqm (qmq (qq (qey (qt1 (K:=K) rfl) rfl hz qgc (qq (qk2 (q40 (K:=K) rfl) (pv 0) qnx (qny qgp)) qbo)) (qq qgp (qq qgp (qq qgp qbo))))))),?_⟩
   refine⟨_,rfl,_,rfl,a,_,rfl,hS,fun p hp=> ?_⟩
   refine⟨p,_,rfl,.inl (SqL.of qg),fun c hc=> ?_⟩
   refine⟨by show 4≤sizeLine;decide,fun b hb=> ?_⟩
   have nbc:c ≠ b:=qu qg hb
   have hb1:qdt H _:=qdt.trans (qdt.upd (o:=.lst (qf5 (ns.map V.int) none (some 63))) hp) (qdt.upd (o:=.lst (qf5 (ns.map V.int) none (some 63))) hc)
   obtain ⟨ms,em⟩:=qpe ns none (some 63)
   refine k b c ms _ (hb1.free hb) ((qdt.upd hp).free hc) nbc (hb1.trans (qdt.upd hb)) qg ?_
   rw[qc nbc,qg,em]
end
theorem qs9:dOk ["tickets","blanks"] ["tickets","blanks"] qou qos 0 bs {} qkj=true:=by decide +kernel
theorem qks:dOk ["tickets","blanks","ticket","end","member","many"] ["tickets","blanks","ticket"] qda qa6 1 bs {} qc9=true:=by decide +kernel
theorem qmb:dOk ["_law_box_here","_law_many","_law_rest","_law_cell","_law_seed"] ["_law_box_here","_law_many"] qht qnf 0 bs {} qd4=true:=by decide +kernel
theorem qkt:dOk ["_law_box_here","_law_ways","_law_found","_law_k"] ["_law_box_here"] qf2 qc7 1 bs {} qc6=true:=by decide +kernel
theorem qev:dOk ["_law_box_here","_law_many","_law_way","_law_row","_law_k"] ["_law_box_here","_law_many"] qch qbh 1 bs {} qbg=true:=by decide +kernel
theorem qmc:∀ d < 5,dOk ["_law_found","_law_due"] ["_law_found","_law_due"] qee (qd5 d) (d+1) bs {} qbf=true:=by decide +kernel
theorem q0z:qfh ⟨["_law_script","_law_box_here","_law_tickets","_law_blanks","_law_handed","_law_many","_law_ahead","_law_at","_law_drawn","_law_ticket"],qa qhu,fun _=>true,qax,6,bs,{}⟩ qdk ((qo qhu).drop 1)=true:=by decide +kernel
noncomputable def en (P:Params) (x:Str) (t:Nat) (v:Value):DictEntry:={ hash:=PyData.keyHash P x,key:=.str x t,val:=v }
noncomputable def fo (st:Stmt) (x:Str) (kV dc pm:Value) (an:Option Addr) (c ct:Value) (sl:Array (Option Value)):Obj:=⟨.type "function",none,.func (PySem.W.fnOf x x (qar st) (qo st) (qa st) .none kV dc pm an c ct),sl⟩
noncomputable def fm (st:Stmt) (x q:Str) (dV kV dc pm:Value) (an:Option Addr) (c ct:Value) (sl:Array (Option Value)):Obj:=⟨.type "function",none,.func (PySem.W.fnOf x q (qar st) (qo st) (qa st) dV kV dc pm an c ct),sl⟩
noncomputable abbrev qhv:Stmt:=(qkr (top 1)).getD 0 (.Pass ⟨0,0,0,0⟩)
noncomputable abbrev qmd:Stmt:=(qkr (top 2)).getD 0 (.Pass ⟨0,0,0,0⟩)
noncomputable abbrev qf4:Stmt:=(qkr (top 3)).getD 0 (.Pass ⟨0,0,0,0⟩)
noncomputable def hp (P:Params):PySem.W.Frag:=[(2,({ cls:=.none,data:=Data.dict #[] }:Obj)),
 (3,({ cls:=.type "dict",data:=Data.dict #[en P "__name__" 165 (.str "law_outlivers_k02_whose_ticket_it_is" 290),en P "__doc__" 166 (.none),en P "__package__" 167 (.none),en P "__loader__" 168 (.builtin "__main__.__loader__#opaque"),en P "__spec__" 169 (.none),en P "__annotations__" 170 (.ref 6),en P "__builtins__" 171 (.ref 4),en P "__file__" 173 (.str "/claim/cut.py" 172),en P "__cached__" 174 (.none),en P "OutError" 217 (.ref 32),en P "BadBlanks" 242 (.ref 53),en P "BadTicket" 267 (.ref 73),en P "total" 277 (.ref 82),en P "ticket_of" 289 (.ref 89),en P "_law_box" 298 (.ref 96),en P "_law_take" 309 (.ref 103),en P "_law_great" 319 (.ref 110),en P "_law_same" 325 (.ref 115),en P "_law_ticket_row" 336 (.ref 122),en P "_law_whose" 347 (.ref 129),en P "law" 363 (.ref 136)] 21 }:Obj)),
 (22,({ cls:=.type "tuple",data:=Data.seq #[.str "" 201] }:Obj)),
 (28,({ cls:=.type "code",data:=Data.fields #[.str "__init__" 202,.str "OutError.__init__" 203,.str "/claim/cut.py" 204,.int 4 0,.int 3 0,.int 0 0,.int 0 0,.int 3 0,.ref 23,.bool true,.int 181 0,.ref 24,.none,.ref 25,.ref 26,.ref 27,.int 208 0,.int 4 0,.str "/claim/cut.py" 209] }:Obj)),
 (29,fm qhv "__init__" "OutError.__init__" (.ref 22) (.none) (.none) (.str "outlivers.errors" 187) (none) (.ref 28) (.none) #[]),
 (31,({ cls:=.type "dict",data:=Data.dict #[en P "__module__" 196 (.str "outlivers.errors" 187),en P "__firstlineno__" 200 (.int 2 199),en P "__init__" 210 (.ref 29),en P "__static_attributes__" 212 (.ref 30),en P "__weakref__" 214 (.ref 33),en P "__doc__" 215 (.none)] 3 }:Obj)),
 (32,({ cls:=.type "type",data:=Data.cls { name:="OutError",bases:=[.type "ValueError"],mro:=[.ref 32,.type "ValueError",.type "Exception",.type "BaseException",.type "object"],ns:=31,qualname:="OutError",subclasses:=[.ref 53,.ref 73] },slots:= #[some (.ref 15),none,some (.str "OutError" 189),some (.str "OutError" 197),some (.builtin "ValueError.__new__"),some (.bool true)] }:Obj)),
 (43,({ cls:=.type "tuple",data:=Data.seq #[.str "" 230] }:Obj)),
 (49,({ cls:=.type "code",data:=Data.fields #[.str "__init__" 231,.str "BadBlanks.__init__" 232,.str "/claim/cut.py" 233,.int 9 0,.int 2 0,.int 0 0,.int 0 0,.int 3 0,.ref 44,.bool true,.int 181 0,.ref 45,.none,.ref 46,.ref 47,.ref 48,.int 236 0,.int 9 0,.str "/claim/cut.py" 237] }:Obj)),
 (50,fm qmd "__init__" "BadBlanks.__init__" (.ref 43) (.none) (.none) (.str "outlivers.errors" 187) (none) (.ref 49) (.none) #[]),
 (52,({ cls:=.type "dict",data:=Data.dict #[en P "__module__" 225 (.str "outlivers.errors" 187),en P "__firstlineno__" 229 (.int 7 228),en P "__init__" 238 (.ref 50),en P "__static_attributes__" 239 (.ref 51),en P "__doc__" 240 (.none)] 2 }:Obj)),
 (53,({ cls:=.type "type",data:=Data.cls { name:="BadBlanks",bases:=[.ref 32],mro:=[.ref 53,.ref 32,.type "ValueError",.type "Exception",.type "BaseException",.type "object"],ns:=52,qualname:="BadBlanks" },slots:= #[some (.ref 36),none,some (.str "BadBlanks" 218),some (.str "BadBlanks" 226),some (.builtin "ValueError.__new__"),some (.bool true)] }:Obj)),
 (63,({ cls:=.type "tuple",data:=Data.seq #[.str "" 255] }:Obj)),
 (69,({ cls:=.type "code",data:=Data.fields #[.str "__init__" 256,.str "BadTicket.__init__" 257,.str "/claim/cut.py" 258,.int 13 0,.int 2 0,.int 0 0,.int 0 0,.int 3 0,.ref 64,.bool true,.int 181 0,.ref 65,.none,.ref 66,.ref 67,.ref 68,.int 261 0,.int 13 0,.str "/claim/cut.py" 262] }:Obj)),
 (70,fm qf4 "__init__" "BadTicket.__init__" (.ref 63) (.none) (.none) (.str "outlivers.errors" 187) (none) (.ref 69) (.none) #[]),
 (72,({ cls:=.type "dict",data:=Data.dict #[en P "__module__" 250 (.str "outlivers.errors" 187),en P "__firstlineno__" 254 (.int 11 253),en P "__init__" 263 (.ref 70),en P "__static_attributes__" 264 (.ref 71),en P "__doc__" 265 (.none)] 2 }:Obj)),
 (73,({ cls:=.type "type",data:=Data.cls { name:="BadTicket",bases:=[.ref 32],mro:=[.ref 73,.ref 32,.type "ValueError",.type "Exception",.type "BaseException",.type "object"],ns:=72,qualname:="BadTicket" },slots:= #[some (.ref 56),none,some (.str "BadTicket" 243),some (.str "BadTicket" 251),some (.builtin "ValueError.__new__"),some (.bool true)] }:Obj)),
 (81,({ cls:=.type "code",data:=Data.fields #[.str "total" 270,.str "total" 271,.str "/claim/cut.py" 272,.int 16 0,.int 2 0,.int 0 0,.int 0 0,.int 3 0,.ref 76,.bool true,.int 181 0,.ref 77,.none,.ref 78,.ref 79,.ref 80,.int 275 0,.int 16 0,.str "/claim/cut.py" 276] }:Obj)),
 (82,fo qou "total" (.none) (.none) (.str "outlivers.tickets" 268) (none) (.ref 81) (.none) #[]),
 (88,({ cls:=.type "code",data:=Data.fields #[.str "ticket_of" 278,.str "ticket_of" 279,.str "/claim/cut.py" 280,.int 18 0,.int 3 0,.int 0 0,.int 0 0,.int 3 0,.ref 83,.bool true,.int 181 0,.ref 84,.none,.ref 85,.ref 86,.ref 87,.int 287 0,.int 18 0,.str "/claim/cut.py" 288] }:Obj)),
 (89,fo qda "ticket_of" (.none) (.none) (.str "outlivers.tickets" 268) (none) (.ref 88) (.none) #[]),
 (95,({ cls:=.type "code",data:=Data.fields #[.str "_law_box" 292,.str "_law_box" 293,.str "/claim/cut.py" 294,.int 28 0,.int 1 0,.int 0 0,.int 0 0,.int 3 0,.ref 90,.bool true,.int 181 0,.ref 91,.none,.ref 92,.ref 93,.ref 94,.int 296 0,.int 28 0,.str "/claim/cut.py" 297] }:Obj)),
 (96,fo qfn "_law_box" (.none) (.none) (.str "law_outlivers_k02_whose_ticket_it_is" 290) (none) (.ref 95) (.none) #[]),
 (102,({ cls:=.type "code",data:=Data.fields #[.str "_law_take" 299,.str "_law_take" 300,.str "/claim/cut.py" 301,.int 30 0,.int 2 0,.int 0 0,.int 0 0,.int 3 0,.ref 97,.bool true,.int 181 0,.ref 98,.none,.ref 99,.ref 100,.ref 101,.int 307 0,.int 30 0,.str "/claim/cut.py" 308] }:Obj)),
 (103,fo qht "_law_take" (.none) (.none) (.str "law_outlivers_k02_whose_ticket_it_is" 290) (none) (.ref 102) (.none) #[]),
 (109,({ cls:=.type "code",data:=Data.fields #[.str "_law_great" 310,.str "_law_great" 311,.str "/claim/cut.py" 312,.int 46 0,.int 1 0,.int 0 0,.int 0 0,.int 3 0,.ref 104,.bool true,.int 181 0,.ref 105,.none,.ref 106,.ref 107,.ref 108,.int 317 0,.int 46 0,.str "/claim/cut.py" 318] }:Obj)),
 (110,fo qf2 "_law_great" (.none) (.none) (.str "law_outlivers_k02_whose_ticket_it_is" 290) (none) (.ref 109) (.none) #[]),
 (114,({ cls:=.type "code",data:=Data.fields #[.str "_law_same" 320,.str "_law_same" 321,.str "/claim/cut.py" 322,.int 56 0,.int 2 0,.int 0 0,.int 0 0,.int 3 0,.ref 111,.bool true,.int 181 0,.ref 112,.none,.none,.none,.ref 113,.int 323 0,.int 56 0,.str "/claim/cut.py" 324] }:Obj)),
 (115,fo qee "_law_same" (.none) (.none) (.str "law_outlivers_k02_whose_ticket_it_is" 290) (none) (.ref 114) (.none) #[]),
 (121,({ cls:=.type "code",data:=Data.fields #[.str "_law_ticket_row" 326,.str "_law_ticket_row" 327,.str "/claim/cut.py" 328,.int 66 0,.int 2 0,.int 0 0,.int 0 0,.int 3 0,.ref 116,.bool true,.int 181 0,.ref 117,.none,.ref 118,.ref 119,.ref 120,.int 334 0,.int 66 0,.str "/claim/cut.py" 335] }:Obj)),
 (122,fo qch "_law_ticket_row" (.none) (.none) (.str "law_outlivers_k02_whose_ticket_it_is" 290) (none) (.ref 121) (.none) #[]),
 (128,({ cls:=.type "code",data:=Data.fields #[.str "_law_whose" 337,.str "_law_whose" 338,.str "/claim/cut.py" 339,.int 77 0,.int 3 0,.int 0 0,.int 0 0,.int 3 0,.ref 123,.bool true,.int 181 0,.ref 124,.none,.ref 125,.ref 126,.ref 127,.int 345 0,.int 77 0,.str "/claim/cut.py" 346] }:Obj)),
 (129,fo qf3 "_law_whose" (.none) (.none) (.str "law_outlivers_k02_whose_ticket_it_is" 290) (none) (.ref 128) (.none) #[]),
 (135,({ cls:=.type "code",data:=Data.fields #[.str "law" 348,.str "law" 349,.str "/claim/cut.py" 350,.int 84 0,.int 1 0,.int 0 0,.int 0 0,.int 3 0,.ref 130,.bool true,.int 181 0,.ref 131,.none,.ref 132,.ref 133,.ref 134,.int 361 0,.int 84 0,.str "/claim/cut.py" 362] }:Obj)),
 (136,fo qhu "law" (.none) (.none) (.str "law_outlivers_k02_whose_ticket_it_is" 290) (none) (.ref 135) (.none) #[])]
noncomputable def ads:List Addr:=[2,3,22,28,29,31,32,43,49,50,52,53,63,69,70,72,73,81,82,88,89,95,96,102,103,109,110,114,115,121,122,128,129,135,136]
noncomputable def Q : Program := { PySem.Challenge.pw_outlivers_k02_whose_ticket_it_is with main := { PySem.Challenge.pw_outlivers_k02_whose_ticket_it_is.main with body := [top 1, top 2, top 3, top 5, top 6, top 8, top 9, top 10, top 11, top 12, top 13, top 14] } }
theorem all {l:PySem.W.OpenLaw} {w:World} {mg:Str→Option Value} {fa:Addr} {h:Heap} (X:(hp w.params).In h) (G:h.Ns mainGlobals mg) (hfa:mg "law"=some (.ref fa)):∃ fd:FuncData,(∀ (s:Shared) (v:Value),BindsTo s fd ⟨[v],[]⟩ [("_law_script",v)])∧∀ base:Heap,(hp w.params).In base→base.Ns mainGlobals mg→qap l.prog w (hp w.params) mg base CX0 60 fa fd ["_law_script"] (T3.sp_law (hp w.params)):=by
 have e:=hfa.symm.trans (PySem.W.mg_of X G (show PySem.W.nsIn (hp w.params) mainGlobals "law"=some (some (.ref 136)) from rfl))
 cases e
 have B:∀ b ∈ bs,mg b=none:=by
   intro b hb
   simp only [bs,List.mem_cons,List.not_mem_nil,or_false]at hb
   rcases hb with rfl | rfl | rfl | rfl | rfl | rfl | rfl | rfl | rfl | rfl | rfl | rfl | rfl <;> exact PySem.W.mg_none_of X G (by kernel_rfl)
 have M:qf9 l.prog w (hp w.params) mg {}:=.none
 refine⟨PySem.W.fnOf "law" "law" (qar qhu) (qo qhu) (qa qhu) .none (.none) (.none) (.str "law_outlivers_k02_whose_ticket_it_is" 290) (none) (.ref 135) (.none),fun s v=>.of_eq rfl,fun base _ _=> ?_⟩
 have mOutError:mg "OutError"=some (.ref 32):=PySem.W.mg_of X G (show PySem.W.nsIn (hp w.params) mainGlobals "OutError"=some (some (.ref 32)) from rfl)
 have mBadBlanks:mg "BadBlanks"=some (.ref 53):=PySem.W.mg_of X G (show PySem.W.nsIn (hp w.params) mainGlobals "BadBlanks"=some (some (.ref 53)) from rfl)
 have mBadTicket:mg "BadTicket"=some (.ref 73):=PySem.W.mg_of X G (show PySem.W.nsIn (hp w.params) mainGlobals "BadTicket"=some (some (.ref 73)) from rfl)
 have IO:qap l.prog w (hp w.params) mg base CX0 1 29 _ ["self","word","why"] (spO (hp w.params)):=qsu (k:=0) (N:=["self","word","why"]) (st:=qhv) (fns:=[]) (bs:=bs) (md:={}) rfl rfl (qb4 (by decide +kernel)) (by rfl) (by decide +kernel) (by decide +kernel) (by decide +kernel) (by decide +kernel) (B "ValueError" (by decide +kernel)) (fun env=>⟨_,rfl⟩)
 have CO:qsq (hp w.params) 32 "__init__" 29:=⟨rfl,rfl,rfl,rfl,rfl⟩
 have MBadTicket:qdn (hp w.params) 73 70:=qs6 rfl ⟨rfl,rfl,rfl,rfl⟩ (qv8 rfl rfl) rfl rfl rfl
 have ABadTicket:qf1 (hp w.params) 73:=⟨rfl,rfl,rfl,rfl,rfl,rfl,rfl,rfl⟩
 have SBadTicket:qco (hp w.params) 73 "word":=⟨rfl,⟨_,rfl,rfl,rfl,rfl,fun _=>rfl⟩,rfl⟩
 have HBadTicket:qho (hp w.params) 73 32:=qs7 rfl rfl rfl ⟨rfl,rfl,rfl,rfl⟩
 have IBadTicket:qap l.prog w (hp w.params) mg base CX0 2 70 _ ["self","why"] (spB 73):=qp9 (k:=1) (N:=["self","why"]) (st:=qf4) (fns:=[]) (bs:=bs) (md:={}) rfl rfl (qb4 (by decide +kernel)) (by rfl) (by decide +kernel) (by decide +kernel) (by decide +kernel) mOutError CO IO (by decide) (q0t fun _ _ _ _=>rfl) MBadTicket SBadTicket (fun env=>⟨_,rfl⟩)
 have N_total:FnT CX0 l.prog w (hp w.params) mg base "total" 2 1 qdj:=qfi (f:=82) (ps:=["tickets","blanks"]) X G rfl rfl rfl rfl (qne fun _ _=>rfl) B M .nil qs9
 have N_ticket_of:FnT CX0 l.prog w (hp w.params) mg base "ticket_of" 3 2 qbn:=qfi (f:=89) (ps:=["tickets","blanks","ticket"]) X G rfl rfl rfl rfl (qvb fun _ _ _=>rfl) B M (.cons N_total .nil) qks
 have N_law_box:=q1y (qnp (P:=l.prog) (w:=w) (base:=base) (qe0 (K:=hp w.params) (f:=96) (st:=qfn) rfl rfl rfl) (B "list" (by decide +kernel))) (PySem.W.mg_of X G (show PySem.W.nsIn (hp w.params) mainGlobals "_law_box"=some (some (.ref 96)) from rfl)) rfl (.all (q0f fun _=>rfl))
 have N_law_take:FnT CX0 l.prog w (hp w.params) mg base "_law_take" 2 1 qat:=qfi (f:=103) (ps:=["_law_box_here","_law_many"]) X G rfl rfl rfl rfl (qne fun _ _=>rfl) B M .nil qmb
 have N_law_great:FnT CX0 l.prog w (hp w.params) mg base "_law_great" 1 2 qb5:=qfi (f:=110) (ps:=["_law_box_here"]) X G rfl rfl rfl rfl (q0f fun _=>rfl) B M (.cons N_law_take .nil) qkt
 have N_law_same:∀ d≤5,FnT CX0 l.prog w (hp w.params) mg base "_law_same" 2 (d+1) (qj d):=by
   intro d
   induction d with
   | zero=>intro _;exact q3m X G (f:=115) (st:=qee) (ps:=["_law_found","_law_due"]) rfl rfl rfl rfl (qne fun _ _=>rfl) (qb4 (N:=["_law_found","_law_due"]) (by decide +kernel))
   | succ d ih=>intro hd;exact qfi (f:=115) (ps:=["_law_found","_law_due"]) X G rfl rfl rfl rfl (qne fun _ _=>rfl) B M (.cons (ih (by omega)) .nil) (qmc d (by omega))
 have N_law_same:=N_law_same 5 (Nat.le_refl _)
 have N_law_ticket_row:FnT CX0 l.prog w (hp w.params) mg base "_law_ticket_row" 2 2 qaw:=qfi (f:=122) (ps:=["_law_box_here","_law_many"]) X G rfl rfl rfl rfl (qne fun _ _=>rfl) B M (.cons N_law_take .nil) qev
 have R_ticket_of:=q0u (P:=l.prog) (w:=w) (base:=base) (N:=["tickets","blanks","ticket","end","member","many"]) (ps:=["tickets","blanks","ticket"]) (k:=3) (cb:=qa0) (bs:=bs) (md:={}) (qe0 (K:=(hp w.params)) (f:=89) (st:=qda) rfl rfl rfl) (qb4 (by decide +kernel)) (by rfl) (by decide +kernel) (by decide +kernel) B M (.cons N_total .nil) mBadTicket MBadTicket IBadTicket (by decide) (q0s fun _ _ _=>rfl)
 have N_law_whose:FnT CX0 l.prog w (hp w.params) mg base "_law_whose" 3 5 qav:=qsb (qs8 (ps:=["_law_tickets","_law_blanks","_law_ticket"]) (k:=4) (bs:=bs) (md:={}) (p0:=qao) (cz:=q8) (cb:=qbk) (ca:=qb7) (gz:=qb6) (i:=4) (j:=3) (hs:=[.str "bad",.bl true,.bl true,.bl false]) (qe0 (K:=(hp w.params)) (f:=129) (st:=qf3) rfl rfl rfl) (qb4 (N:=["_law_tickets","_law_blanks","_law_ticket","_law_found","e"]) (by decide +kernel)) rfl B M (.cons N_ticket_of .nil) (by decide +kernel) (by decide +kernel) ⟨⟨_,_,_,R_ticket_of,by decide,PySem.W.mg_of X G (show PySem.W.nsIn (hp w.params) mainGlobals "ticket_of"=some (some (.ref 89)) from rfl),rfl,.all (qvb fun _ _ _=>rfl)⟩,HBadTicket,mOutError,(by decide +kernel),(by decide +kernel),(by decide +kernel),(by decide +kernel),(by decide +kernel),(by decide +kernel),by decide +kernel,⟨_,[.str "bad",.bl true,.bl true,.bl false],fun X R=>R.suite (by decide +kernel) (qq qjd (qq (R.isx (by decide +kernel) (by decide +kernel) (by decide +kernel) (B "isinstance" (by decide +kernel)) mBadTicket) (qq (R.isv (by decide +kernel) (by decide +kernel) (by decide +kernel) (B "isinstance" (by decide +kernel)) (B "ValueError" (by decide +kernel))) (qq (R.isx (by decide +kernel) (by decide +kernel) (by decide +kernel) (B "isinstance" (by decide +kernel)) mBadBlanks) qbo rfl) rfl) rfl) rfl),fun D σ H a h1 h2 q=>qqh (by decide) (fun Q q=>(qot ABadTicket rfl h1 h2 (q0x ABadTicket rfl h1 h2 (qot ABadTicket rfl h1 h2 q)))) q,fun w H=>⟨_,_,rfl,rfl,⟨_,_,rfl,rfl,⟨_,_,rfl,rfl,⟨_,_,rfl,rfl,rfl⟩⟩⟩⟩⟩,by decide⟩) (PySem.W.mg_of X G (show PySem.W.nsIn (hp w.params) mainGlobals "_law_whose"=some (some (.ref 129)) from rfl)) rfl (.all (qvb fun _ _ _=>rfl))
 exact(q0e (P:=l.prog) (w:=w) (base:=base) (qe0 (st:=qhu) rfl rfl rfl) (qb4 (N:=["_law_script","_law_box_here","_law_tickets","_law_blanks","_law_handed","_law_many","_law_ahead","_law_at","_law_drawn","_law_ticket"]) (by decide +kernel)) (by rfl) (by decide +kernel) (by decide +kernel) (by decide +kernel) (kb:=1) N_law_box (by decide) B M (.cons N_total (.cons N_law_take (.cons N_law_great (.cons N_law_same (.cons N_law_ticket_row (.cons N_law_whose .nil)))))) q0z qkq).mono (by decide)
theorem walk {l:PySem.W.OpenLaw} {q:Program} {loose:List Str} {XP:(Str→Option Value)→Heap→Prop} {d:DefRec} (hn:l.most=some 63) (hdf:d.params.defaults=[]) (hd:d.name="law"):PySem.W.WalkO q loose XP (PySem.W.InK hp) l.row.toRowW d [] (fun f vs=>PySem.call f vs) :=
 L2.walk_of (n:=63) (k:=60) (x:="_law_script") (CX:=fun _=>CX0) (sp:=fun w=>T3.sp_law (hp w.params)) hn (by decide) hdf ⟨rfl,by decide,by decide⟩ (fun _ _ Y=>Y) (fun w mg fa h X G e=>all X G (hd ▸ e)) (fun _ _ a ns hl _ hS=>⟨a,ns,rfl,hS,hl,fun _=>rfl⟩) fun _ _ _ _ _ z=>z
noncomputable abbrev hook:PySem.W.Hook:=PySem.W.kHook hp ads (fun _=>rfl)
theorem left : PySem.W.LeftO PySem.Challenge.pw_outlivers_k02_whose_ticket_it_is Q ["OutError", "BadBlanks", "BadTicket"] (fun s => PySem.W.xlAt Q [] s && PySem.W.recOk (PySem.W.RowW.records (PySem.W.OpenRow.toRowW PySem.Challenge.rw_outlivers_k02_whose_ticket_it_is.row)) s) (PySem.W.Hook.obs hook) (PySem.W.Hook.val hook) 2182 := by
  intro w; kernel_rfl
theorem said : PySem.Challenge.rw_outlivers_k02_whose_ticket_it_is.wellSaid = true := by kernel_rfl
end K02
open PySem PySem.W PyProof.Rows
set_option maxRecDepth 100000 in
set_option maxHeartbeats 0 in
theorem PySem.Challenge.cw_outlivers_k02_whose_ticket_it_is_holds : PySem.Challenge.rw_outlivers_k02_whose_ticket_it_is.Holds := by
  refine holds_law K02.said fun said => ?_
  refine holds_open (q := K02.Q) (loose := ["OutError", "BadBlanks", "BadTicket"]) (Xt := (fun s => PySem.W.xlAt K02.Q [] s && PySem.W.recOk (PySem.W.RowW.records (PySem.W.OpenRow.toRowW PySem.Challenge.rw_outlivers_k02_whose_ticket_it_is.row)) s)) (XP := XL K02.Q []) (Yf := Hook.obs K02.hook) (Ya := Hook.val K02.hook) (YP := Hook.says K02.hook) (N := 2182) K02.left (Hook.of K02.hook) (Hook.keeps K02.hook) (fun s e => xl_of s (Bool.and_eq_true_iff.mp e).1) XL.keeps (by rfl) (by rfl) (by rfl) (fun s e => recFacts_of (Bool.and_eq_true_iff.mp e).2) (by rfl) (by first | assumption | decide +kernel) (by decide +kernel) ⟨rfl, rfl, rfl, rfl, rfl, by decide +kernel⟩ ?hw ?hc
  · w_witness2
  exact K02.walk (l := PySem.Challenge.rw_outlivers_k02_whose_ticket_it_is) rfl rfl rfl
