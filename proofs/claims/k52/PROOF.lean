import PyProof.Rows.All
import Wide.All
import OpenK.AllK
import Wide.FinOn
import Lean
import PyProof.EqAt
import PyProof.EqKinds
import PyProof.TupleCall
import KE.KDictSum
import KE.IntTextLaws
import PySem.Challenge.RW_outlivers_k52_rows_read_or_refused
set_option genSizeOf false
set_option genSizeOf false
set_option Elab.async false
set_option linter.all false
set_option maxRecDepth 100000
namespace L2
open PySem PySem.Spec PyProof.Rows
noncomputable abbrev Key:=Sum Int Str
noncomputable def qj3:Key→Value→Bool
 | .inl k,v=>Value.isInt k v
 | .inr x,v=>Value.isStrOf x v
noncomputable def q50 (w:World):Key→Int
 | .inl k=>hashInt k
 | .inr x=>hashStr w x
theorem qam:∀ {k:Key} {v:Value},qj3 k v=true→(∃ i t,k=Sum.inl i∧v=Value.int i t)∨(∃ x t,k=Sum.inr x∧v=Value.str x t)
 | .inl i,v,h=>by
   obtain ⟨t,e⟩:=Value.isInt_shape (k:=i) (v:=v) h
   exact .inl ⟨i,t,rfl,e⟩
 | .inr x,v,h=>by
   obtain ⟨t,e⟩:=Value.isStrOf_shape (x:=x) (v:=v) h
   exact .inr ⟨x,t,rfl,e⟩
theorem qq1 (i:Int) (t:Tok):qj3 (.inl i) (.int i t)=true:=by simp [qj3,Value.isInt]
theorem qq2 (x:Str) (t:Tok):qj3 (.inr x) (.str x t)=true:=by simp [qj3,Value.isStrOf]
theorem qy7 (a b:Int):decide ((Sum.inl a:Key)=Sum.inl b)=(a==b):=by
 by_cases e:a=b
 · subst e;simp
 · have h:¬ (Sum.inl a:Key)=Sum.inl b:=fun q=>e (Sum.inl.inj q)
   rw[decide_eq_false h]
   exact(beq_eq_false_iff_ne.mpr e).symm
theorem qso (a b:Str):decide ((Sum.inr a:Key)=Sum.inr b)=decide (a=b):=by
 by_cases e:a=b
 · subst e;simp
 · have h:¬ (Sum.inr a:Key)=Sum.inr b:=fun q=>e (Sum.inr.inj q)
   rw[decide_eq_false h,decide_eq_false e]
theorem qy8 (a:Int) (b:Str):decide ((Sum.inl a:Key)=Sum.inr b)=false:=decide_eq_false (fun q=>nomatch q)
theorem qy9 (a:Str) (b:Int):decide ((Sum.inr a:Key)=Sum.inl b)=false:=decide_eq_false (fun q=>nomatch q)
noncomputable def qx (prog:Program) (w:World):PySem.KeyKind prog w Key where
 is:=qj3
 hash:=q50 w
 inj :=fun v a b ha hb=>by
   rcases qam ha with ⟨i,t,rfl,rfl⟩ | ⟨x,t,rfl,rfl⟩
   · rcases qam hb with ⟨j,u,rfl,e⟩ | ⟨y,u,rfl,e⟩
     · injection e with e1 _;rw[e1]
     · exact nomatch e
   · rcases qam hb with ⟨j,u,rfl,e⟩ | ⟨y,u,rfl,e⟩
     · exact nomatch e
     · injection e with e1 _;rw[e1]
 byValue:=fun k v h=>by
   rcases qam h with ⟨i,t,rfl,rfl⟩ | ⟨x,t,rfl,rfl⟩ <;> rfl
 pyHash:=fun hv h=>by
   rcases qam hv with ⟨i,t,rfl,rfl⟩ | ⟨x,t,rfl,rfl⟩
   · exact wpAny_pyHash_int h
   · exact wpAny_pyHash_str h
 eqBool:=fun hu hv h=>by
   rcases qam hu with ⟨i,t,rfl,rfl⟩ | ⟨x,t,rfl,rfl⟩
   · rcases qam hv with ⟨j,u,rfl,rfl⟩ | ⟨y,u,rfl,rfl⟩
     · rw[qy7]at h;exact wpAny_eqBool_int h
     · rw[qy8]at h;exact SeqAt.EqAt.int_str i t y u _ _ _ _ h
   · rcases qam hv with ⟨j,u,rfl,rfl⟩ | ⟨y,u,rfl,rfl⟩
     · rw[qy9]at h;exact SeqAt.EqAt.str_int x t j u _ _ _ _ h
     · rw[qso]at h;exact wpAny_eqBool_str h
 «strs»:=fun k x t v h=>by
   rcases qam h with ⟨i,u,rfl,e⟩ | ⟨y,u,rfl,e⟩
   · exact nomatch e
   · injection e with e1 _
     subst e1
     cases v <;> rfl
theorem qms (prog:Program) (w:World) (i:Int) (t:Tok):(qx prog w).is (.inl i) (.int i t)=true:=qq1 i t
theorem qdl (prog:Program) (w:World) (x:Str) (t:Tok):(qx prog w).is (.inr x) (.str x t)=true:=qq2 x t
inductive V where
 | non | bl (b:Bool) | int (i:Int) | str (x:Str) | byt (b:Array UInt8) | flt (b:UInt64) | ref (a:Addr) | ty (n:String)
 deriving DecidableEq
noncomputable def RelV:V→Value→Prop
 | .non,u=>u=Value.none
 | .bl b,u=>u=Value.bool b
 | .int i,u=>∃ t,u=Value.int i t
 | .str x,u=>∃ t,u=Value.str x t
 | .byt b,u=>∃ t,u=Value.bytes b t
 | .flt b,u=>∃ t,u=Value.float b t
 | .ref a,u=>u=Value.ref a
 | .ty n,u=>u=Value.type n
noncomputable abbrev Vals:List V→List Value→Prop:=Paired RelV
theorem Vals.length {xs:List V} {us:List Value} (r:Vals xs us):xs.length=us.length:=Paired.length r
theorem Vals.get:∀ {xs:List V} {us:List Value} {i:Nat} {x:V},Vals xs us→xs[i]? =some x→∃ u,us[i]? =some u∧RelV x u
 | _,_,_,_,.nil,e=>by simp at e
 | _,_,0,_,.cons r _,e=>by simp at e;subst e;exact⟨_,rfl,r⟩
 | _,_,i+1,x,.cons _ t,e=>by
   obtain ⟨u,h1,h2⟩:=Vals.get (i:=i) (x:=x) t (by simpa using e)
   exact⟨u,by simpa using h1,h2⟩
theorem Vals.set {x:V} {u:Value} (r:RelV x u):∀ {xs:List V} {us:List Value} (i:Nat),Vals xs us→Vals (xs.set i x) (us.set i u)
 | _,_,_,.nil=>.nil
 | _,_,0,.cons _ t=>.cons r t
 | _,_,i+1,.cons q t=>.cons q (Vals.set r i t)
theorem Vals.append:∀ {xs ys:List V} {us ws:List Value},Vals xs us→Vals ys ws→Vals (xs++ys) (us++ws)
 | _,_,_,_,.nil,s=>s
 | _,_,_,_,.cons r t,s=>.cons r (Vals.append t s)
theorem Vals.take:∀ {xs:List V} {us:List Value} (n:Nat),Vals xs us→Vals (xs.take n) (us.take n)
 | _,_,0,_=>.nil
 | _,_,_+1,.nil=>.nil
 | _,_,n+1,.cons r t=>.cons r (Vals.take n t)
theorem Vals.drop:∀ {xs:List V} {us:List Value} (n:Nat),Vals xs us→Vals (xs.drop n) (us.drop n)
 | _,_,0,r=>r
 | _,_,_+1,.nil=>.nil
 | _,_,n+1,.cons _ t=>Vals.drop n t
noncomputable def qfw:Option V→Option Value→Prop
 | some v,some u=>RelV v u
 | none,none=>True
 | _,_=>False
noncomputable def KV {κ:Type}:List (κ × V)→List (κ × Value)→Prop:=Paired fun (p:κ × V) (q:κ × Value)=>p.1=q.1∧RelV p.2 q.2
noncomputable def kV:Key→V
 | .inl i=>.int i
 | .inr x=>.str x
inductive HO where
 /-- a list -/
 | lst (xs:List V)
 /-- a tuple (never changes) -/
 | tup (xs:List V)
 /-- a dict whose keys are ints and texts;one whose keys are tuples of ints and texts (the empty one is both) -/
 | dK (kvs:List (Key × V)) | dT (kvs:List (List Key × V))
 /-- a set of ints: its members,its size -/
 | set (S:Int→Bool) (n:Nat)
 /-- an instance of the class at C,its dict at dx,its attributes -/
 | ins (C dx:Addr) (fs:List (Str × V))
 /-- the dict of the instance at x -/
 | own (x:Addr)
 /-- the dict of an exception -/
 | xd (fs:List (Str × V))
 /-- a bound method,f of x -/
 | met (f x:Addr)
 /-- a range object lo,lo+1,.. below hi -/
 | rng (lo hi:Int)
 /-- a thing that is known to the object (the script;a dict while a loop walks it): read,never written while it is so -/
 | frz (o:Obj) (u:HO)
 /-- a code object's table -/
 | tbl (ps:Array Value)
 /-- any other thing,by what is true of its one object (a def of one's own: SetO a S n:=HO.ext fun h=>..) -/
 | ext (φ:Heap→Prop)
noncomputable abbrev Hp:=Addr→Option HO
noncomputable def upd (H:Hp) (a:Addr) (o:HO):Hp:=fun b=>if b=a then some o else H b
theorem qj {H:Hp} {a:Addr} {o:HO}:upd H a o a=some o:=by unfold upd;rw[if_pos rfl]
theorem qg {H:Hp} {a b:Addr} {o:HO} (h:b ≠ a):upd H a o b=H b:=by unfold upd;rw[if_neg h]
theorem qp5 {H:Hp} {a:Addr} {o u:HO}:upd (upd H a o) a u=upd H a u:=by
 funext b;unfold upd;split <;> rfl
theorem q2o {H:Hp} {a b:Addr} {o u:HO} (h:H a=some o) (h':H b=some u) (d:o ≠ u):a ≠ b:=by
 intro e;subst e;rw[h]at h';exact d (Option.some.inj h')
theorem qab {H:Hp} {a b:Addr} {o:HO} (h:H a=some o) (h':H b=none):a ≠ b:=by
 intro e;subst e;rw[h]at h';cases h'
section
variable (P:Program) (w:World)
noncomputable def qad (H:Hp) (h:Heap) (a:Addr):HO→Prop
 | .lst xs=>xs.length≤sizeLine∧∃ (its:List Value) (n:Nat),Vals xs its∧h.get? a=some { cls:=.type "list",data:=.seq its.toArray n }
 | .tup xs=>xs.length≤sizeLine∧∃ its:List Value,Vals xs its∧IsTup h a its.toArray
 | .dK kvs=>kvs.length≤sizeLine∧(a==sysModules)=false∧∃ vs,KV kvs vs∧h.DictOf (qx P w) a vs
 | .dT kvs=>kvs.length≤sizeLine∧(a==sysModules)=false∧∃ xs:List (List Key × Addr × Value),
     Paired (fun (p:List Key × V) (q:List Key × Addr × Value)=>p.1=q.1∧H q.2.1=some (.tup (p.1.map kV))∧RelV p.2 q.2.2) kvs xs ∧
     ∃ o es ep,h.get? a=some o∧o.ExactDict∧o.data=.dict es ep∧es.toList=xs.map (entryOfKey (tupleKind (qx P w)))∧(xs.map (·.1)).Nodup
 | .set S n=>h.SetOf (intKind P w) a S n
 | .ins C dx fs=>H dx=some (.own a)∧fs.length≤1000∧dx ≠ a∧h.get? a=some (PySem.W.instObj C dx) ∧
     ∃ mA,h.Ns1 dx mA∧(∀ f,qfw (fs.lookup f) (mA f))∧PySem.Within mA (fs.map (·.1))
 | .own _=>∃ o,h.get? a=some o
 | .xd fs=>∃ mA,h.Ns1 a mA∧∀ f,qfw (fs.lookup f) (mA f)
 | .rng lo hi=>∃ t u v,h.get? a=some { cls:=.type "range",data:=.fields #[.int lo t,.int hi u,.int 1 v] }
 | .frz o u=>h.get? a=some o∧qad H h a u
 | .tbl ps=>h.get? a=some { cls:=.none,data:=.fields ps }
 | .met f x=>h.get? a=some (PySem.W.methodObj (.ref f) (.ref x))
 | .ext φ=>φ h∧(∃ o,h.get? a=some o)∧∀ h1 h2:Heap,φ h1→(∀ o,h1.get? a=some o→h2.get? a=some o)→φ h2
noncomputable def HOk (H:Hp) (h:Heap):Prop:=∀ a o,H a=some o→qad P w H h a o
end
section
variable {P:Program} {w:World} {H H':Hp} {h h':Heap} {a:Addr} {o:HO}
theorem qad.lt (x:qad P w H h a o):a < h.objs.size:=by
 cases o with
 | lst xs=>obtain ⟨_,_,_,_,e⟩:=x;exact Heap.lt_size e
 | tup xs=>obtain ⟨_,_,_,p⟩:=x;exact p.lt
 | dK kvs=>obtain ⟨_,_,_,_,o,_,_,e,_⟩:=x;exact Heap.lt_size e
 | dT kvs=>obtain ⟨_,_,_,_,o,_,_,e,_⟩:=x;exact Heap.lt_size e
 | set S n=>obtain ⟨o,_,_,_,e,_⟩:=x;exact Heap.lt_size e
 | ins C dx fs=>obtain ⟨_,_,_,e,_⟩:=x;exact Heap.lt_size e
 | own y=>obtain ⟨_,e⟩:=x;exact Heap.lt_size e
 | xd fs=>obtain ⟨_,⟨_,_,_,e,_⟩,_⟩:=x;exact Heap.lt_size e
 | rng lo hi=>obtain ⟨_,_,_,e⟩:=x;exact Heap.lt_size e
 | frz ob u=>obtain ⟨e,_⟩:=x;exact Heap.lt_size e
 | tbl ps=>exact Heap.lt_size (show h.get? a=some _ from x)
 | met f y=>exact Heap.lt_size (show h.get? a=some _ from x)
 | ext φ=>obtain ⟨_,⟨_,e⟩,_⟩:=x;exact Heap.lt_size e
theorem Paired.mapP {α β:Type} {F G:α→β→Prop}:∀ {l₁:List α} {l₂:List β},Paired F l₁ l₂→(∀ a b,F a b→G a b)→Paired G l₁ l₂
 | _,_,.nil,_=>.nil
 | _,_,.cons r t,f=>.cons (f _ _ r) (Paired.mapP t f)
theorem qad.stay (x:qad P w H h a o) (k:∀ b u,(b=a∨H b=some (.own a))→h.get? b=some u→h'.get? b=some u)
   (ho:∀ b,H b=some (.own a)→H' b=some (.own a)) (ht:∀ b xs,H b=some (.tup xs)→H' b=some (.tup xs)):qad P w H' h' a o:=by
 induction o with
 | lst xs=>obtain ⟨z,its,n,r,e⟩:=x;exact⟨z,its,n,r,k _ _ (.inl rfl) e⟩
 | tup xs=>obtain ⟨z,its,r,ob,e,c⟩:=x;exact⟨z,its,r,ob,k _ _ (.inl rfl) e,c⟩
 | dK kvs=>obtain ⟨z,y,vs,r,ob,es,ep,e,c⟩:=x;exact⟨z,y,vs,r,ob,es,ep,k _ _ (.inl rfl) e,c⟩
 | dT kvs =>
   obtain ⟨z,y,xs,r,ob,es,ep,e,c⟩:=x
   exact⟨z,y,xs,Paired.mapP r fun p q z=>⟨z.1,ht _ _ z.2.1,z.2.2⟩,ob,es,ep,k _ _ (.inl rfl) e,c⟩
 | set S n=>obtain ⟨ob,es,ep,t,e,c⟩:=x;exact⟨ob,es,ep,t,k _ _ (.inl rfl) e,c⟩
 | ins C dx fs =>
   obtain ⟨d,z,ne,e,mA,⟨od,es,ep,e2,c⟩,r⟩:=x
   exact⟨ho _ d,z,ne,k _ _ (.inl rfl) e,mA,⟨od,es,ep,k _ _ (.inr d) e2,c⟩,r⟩
 | own y=>obtain ⟨ob,e⟩:=x;exact⟨ob,k _ _ (.inl rfl) e⟩
 | xd fs=>obtain ⟨mA,⟨od,es,ep,e,c⟩,r⟩:=x;exact⟨mA,⟨od,es,ep,k _ _ (.inl rfl) e,c⟩,r⟩
 | rng lo hi=>obtain ⟨t,u,v,e⟩:=x;exact⟨t,u,v,k _ _ (.inl rfl) e⟩
 | frz ob u ih=>obtain ⟨e,q⟩:=x;exact⟨k _ _ (.inl rfl) e,ih q⟩
 | tbl ps =>
   have e:h.get? a=some { cls:=.none,data:=.fields ps }:=x
   show h'.get? a=some { cls:=.none,data:=.fields ps }
   exact k a _ (.inl rfl) e
 | met f y =>
   have e:h.get? a=some (PySem.W.methodObj (.ref f) (.ref y)):=x
   show h'.get? a=some (PySem.W.methodObj (.ref f) (.ref y))
   exact k a _ (.inl rfl) e
 | ext φ=>obtain ⟨p,⟨o,e⟩,st⟩:=x;exact⟨st _ _ p fun o q=>k _ _ (.inl rfl) q,⟨o,k _ _ (.inl rfl) e⟩,st⟩
theorem HOk.lt (x:HOk P w H h) (e:H a=some o):a < h.objs.size:=(x a o e).lt
theorem HOk.fresh (x:HOk P w H h) (e:h.objs.size≤a):H a=none:=by
 cases q:H a with
 | none=>rfl
 | some u=>exact absurd (Nat.lt_of_lt_of_le (x.lt q) e) (Nat.lt_irrefl _)
theorem HOk.kept (x:HOk P w H h) (k:∀ b u,h.get? b=some u→h'.get? b=some u):HOk P w H h':=fun a o e =>
 (x a o e).stay (fun b u _ q=>k b u q) (fun _ q=>q) fun _ _ q=>q
theorem HOk.laid (x:HOk P w H h) (k:∀ b u,h.get? b=some u→h'.get? b=some u) (hp:h.objs.size≤a) (new:qad P w (upd H a o) h' a o):HOk P w (upd H a o) h':=fun b u e=>by
 have hn:=x.fresh hp
 by_cases hb:b=a
 · subst hb;rw[qj]at e;cases e;exact new
 · rw[qg hb]at e
   exact(x b u e).stay (fun c v _ q=>k c v q) (fun c q=>by rw[qg (qab q hn)];exact q) fun c xs q=>by rw[qg (qab q hn)];exact q
end
noncomputable def Rd (H:Hp) (a:Addr) (u:HO):Prop:=H a=some u∨∃ o,H a=some (.frz o u)
theorem Rd.ok {P:Program} {w:World} {H:Hp} {h:Heap} {a:Addr} {u:HO} (r:Rd H a u) (x:HOk P w H h):qad P w H h a u:=by
 rcases r with r | ⟨o,r⟩
 · exact x a u r
 · obtain ⟨_,q⟩:=x a _ r
   exact q
noncomputable def Mut:Option HO→Prop
 | some (.lst _)=>True
 | some (.dK _)=>True
 | some (.dT _)=>True
 | some (.set _ _)=>True
 | some (.ins _ _ _)=>True
 | some (.ext _)=>True
 | _=>False
section
variable {P:Program} {w:World} {H:Hp} {h h':Heap} {x e:Addr} {o':HO}
theorem HOk.write (ok:HOk P w H h) (mu:Mut (H x)) (he:e=x∨H e=some (.own x)) (k:∀ b u,b ≠ e→h.get? b=some u→h'.get? b=some u) (heo:∃ u,h'.get? e=some u)
   (new:qad P w (upd H x o') h' x o'):HOk P w (upd H x o') h':=fun b u q=>by
 have nown:∀ c y,H c=some (.own y)→c ≠ x:=fun c y r z=>by subst z;rw[r]at mu;exact mu
 have ntup:∀ c xs,H c=some (.tup xs)→c ≠ x:=fun c xs r z=>by subst z;rw[r]at mu;exact mu
 by_cases hb:b=x
 · subst hb;rw[qj]at q;cases q;exact new
 · rw [qg hb]at q
   by_cases hbe:b=e
   · have q':H b=some (.own x):=by
       rcases he with z | z
       · exact absurd (hbe.trans z) hb
       · rw[hbe];exact z
     rw[q]at q';cases q'
     obtain ⟨v,hv⟩:=heo
     exact⟨v,by rw[hbe];exact hv⟩
   · refine(ok b u q).stay (fun c v hc r=>k c v ?_ r) (fun c r=>by rw[qg (nown c b r)];exact r) fun c xs r=>by rw[qg (ntup c xs r)];exact r
     rcases hc with rfl | hc
     · exact hbe
     · rintro rfl
       rcases he with z | z
       · exact nown c b hc z
       · rw[hc]at z;cases z;exact hb rfl
end
structure Un (fs ex:List Addr) (H H':Hp) (h h':Heap):Prop where
 keep:∀ b o,h.get? b=some o→H b=none→b ∉ fs→b ∉ ex→h'.get? b=some o
 slot:∀ b o,h.get? b=some o→H b=none→b ∈ fs→b ∉ ex→∃ sl,h'.get? b=some { o with slots:=sl }
 free:∀ b o,h.get? b=some o→H b=none→b ∉ ex→H' b=none
 there:∀ b o,h.get? b=some o→b ∉ ex→∃ o',h'.get? b=some o'
 tups:∀ b xs,H b=some (.tup xs)→H' b=some (.tup xs)
 frzs:∀ b o u,H b=some (.frz o u)→H' b=some (.frz o u)
 tbls:∀ b ps,H b=some (.tbl ps)→∃ more,H' b=some (.tbl (ps++more))
section
variable {fs fs' ex ex':List Addr} {H H1 H2:Hp} {h h1 h2 h':Heap} {a x e:Addr} {o:HO}
theorem Un.any (u:Un fs ex H H1 h h1) {b:Addr} {ob:Obj} (q:h.get? b=some ob) (n:H b=none) (hx:b ∉ ex):∃ sl,h1.get? b=some { ob with slots:=sl }:=by
 by_cases hb:b ∈ fs
 · exact u.slot b ob q n hb hx
 · exact⟨ob.slots,u.keep b ob q n hb hx⟩
theorem Un.kept (k:∀ b u,h.get? b=some u→h'.get? b=some u):Un fs ex H H h h' :=
 ⟨fun b ob q _ _ _=>k b ob q,fun b ob q _ _ _=>⟨ob.slots,k b ob q⟩,fun _ _ _ n _=>n,fun b ob q _=>⟨ob,k b ob q⟩,fun _ _ q=>q,fun _ _ _ q=>q,fun _ ps q=>⟨#[],by rw[q];simp⟩⟩
theorem Un.refl:Un fs ex H H h h:=Un.kept fun _ _ q=>q
theorem Un.laid (k:∀ b u,h.get? b=some u→h'.get? b=some u) (hp:h.objs.size≤a) (hn:H a=none):Un fs ex H (upd H a o) h h' where
 keep:=fun b u q _ _ _=>k b u q
 slot:=fun b u q _ _ _=>⟨u.slots,k b u q⟩
 free:=fun b u q n _=>by rw[qg (Nat.ne_of_lt (Nat.lt_of_lt_of_le (Heap.lt_size q) hp))];exact n
 there:=fun b u q _=>⟨u,k b u q⟩
 tups:=fun b xs q=>by rw[qg (qab q hn)];exact q
 frzs:=fun b u xs q=>by rw[qg (qab q hn)];exact q
 tbls:=fun b ps q=>⟨#[],by rw[qg (qab q hn),q];simp⟩
theorem Un.write (mu:Mut (H x)) (he:e=x∨H e=some (.own x)) (k:∀ b u,b ≠ e→h.get? b=some u→h'.get? b=some u) (heo:∃ u,h'.get? e=some u):Un fs ex H (upd H x o) h h':=by
 have hx:∀ b,H b=none→b ≠ x:=fun b n z=>by subst z;rw[n]at mu;exact mu
 have hb:∀ b,H b=none→b ≠ e:=fun b n z=>by
   subst z
   rcases he with r | r
   · exact hx b n r
   · rw[n]at r;cases r
 have hm:∀ b u,H b=some u→¬ Mut (some u)→b ≠ x:=fun b u q nm z=>by subst z;rw[q]at mu;exact nm mu
 refine⟨fun b u q n _ _=>k b u (hb b n) q,fun b u q n _ _=>⟨u.slots,k b u (hb b n) q⟩,fun b u q n _=>by rw[qg (hx b n)];exact n,fun b u q _=> ?_,
   fun b xs q=>by rw[qg (hm b _ q fun z=>z)];exact q,fun b u xs q=>by rw[qg (hm b _ q fun z=>z)];exact q,fun b ps q=>⟨#[],by rw[qg (hm b _ q fun z=>z),q];simp⟩⟩
 by_cases hbe:b=e
 · subst hbe;exact heo
 · exact⟨u,k b u hbe q⟩
end
noncomputable def trk (h:Heap) (H:Hp):List Addr:=(List.range h.objs.size).filter fun a=>(H a).isSome
noncomputable def qkz (h:Heap) (H:Hp):Heap:=PySem.W.hideAll h (trk h H)
theorem qq3 (h:Heap) (H:Hp):(qkz h H).objs.size=h.objs.size:=PySem.W.hideAll_size _ _
theorem qsp {h:Heap} {H:Hp} {b:Addr} {o:Obj} (e:h.get? b=some o) (n:H b=none):(qkz h H).get? b=some o :=
 PySem.W.hideAll_get _ e fun hm=>by
   have q:(H b).isSome=true:=(List.mem_filter.mp hm).2
   rw[n]at q;simp at q
theorem qvv {h:Heap} {H:Hp} {b:Addr} {o:Obj} (e:(qkz h H).get? b=some o):h.get? b=some o∧H b=none:=by
 have e':h.get? b=some o:=PySem.W.of_hideAll (trk h H) e
 refine⟨e',?_⟩
 cases q:H b with
 | none=>rfl
 | some x =>
   have hm:b ∈ trk h H:=List.mem_filter.mpr ⟨List.mem_range.mpr (Heap.lt_size e'),by simp [q]⟩
   have z:(qkz h H).get? b=none:=PySem.W.hideAll_none (trk h H) hm
   rw[z]at e;cases e
structure Mod (K:PySem.W.Frag) (mg:Str→Option Value) (base:Heap):Prop where
 kin:K.In base
 glob:base.Ns mainGlobals mg
 blt:∃ mb,base.Ns builtinsNs mb∧∀ x:Str,x ≠ "__name__"→mb x=bootBuiltins x
 nolimit:base.NoLimit
set_option genInjectivity false in
set_option genInjectivity false in
structure Cx where
 prog:Program
 w:World
 K:PySem.W.Frag
 mg:Str→Option Value
 base:Heap
 A:Around
 N:List Str
 s₀:Shared
 H₀:Hp
 env:Env
 outer:List Env
 stack:List Env
 ex:List Addr
 fn:Str→Bool
 calm:Bool
 pn:List (Addr × Obj)
 xe:Value→Shared→Prop
noncomputable def frs (l:List Env):List Addr:=l.filterMap (·.frame)
noncomputable abbrev Cx.fs (X:Cx):List Addr:=frs X.outer
noncomputable def Vis (sc:Scope) (x:Str):Prop:=sc.names.lookup x=some .local∨sc.names.lookup x=some .cell∨sc.names.lookup x=some .free
noncomputable def Loc (sc:Scope) (x:Str):Prop:=sc.names.lookup x=some .local∨sc.names.lookup x=some .cell
noncomputable def Look (env:Env) (h:Heap) (m:Str→Option Value) (x:Str) (u:Value):Prop :=
 (env.kindOf x=some .local∧m x=some u)∨((env.kindOf x=some .cell∨env.kindOf x=some .free)∧∃ c,env.cells.lookup x=some c∧h.IsCell c (some u))
set_option genInjectivity false in
set_option genInjectivity false in
structure Cx.Ok (X:Cx):Prop where
 mod:Mod X.K X.mg X.base
 kind:X.env.scope.kind=.function
 glob:X.env.globals=mainGlobals
 blt:X.env.builtins=builtinsNs
 above:X.s₀.heap.objs.size≤X.env.locals
 inj:∀ x y c,X.env.cells.lookup x=some c→X.env.cells.lookup y=some c→x=y
 has:∀ x,(X.env.kindOf x=some .cell∨X.env.kindOf x=some .free)→∃ c,X.env.cells.lookup x=some c
 cab:∀ x c,X.fn x=true→X.env.cells.lookup x=some c→X.s₀.heap.objs.size≤c
 hd:X.calm=true→X.A.handled=none
 frames:X.A.frames=some X.stack
 stk:X.stack=X.outer∨(X.stack=X.env::X.outer∧X.env.frame=some X.env.locals)
 exf:∀ b ∈ X.ex,b ≠ X.env.locals∧∀ x c,X.env.cells.lookup x=some c→c ≠ b
 bs:∀ b o,X.base.get? b=some o→X.s₀.heap.get? b=some o∧X.H₀ b=none
 bsz:X.base.objs.size≤X.s₀.heap.objs.size
 noex:∀ b o,X.base.get? b=some o→b ∉ X.ex
 exfs:∀ b ∈ X.ex,b ∉ X.fs
 funs:X.s₀.heap.FunFrames X.base X.outer
 frf:∀ b ∈ X.fs,X.H₀ b=none
structure Inv (X:Cx) (pins:List (Addr × Obj)) (σ:List (Option V)) (H:Hp) (s:Shared):Prop where
 ok:X.Ok
 os:s.os=X.s₀.os
 bare:AllBare s.gens
 base:Un X.fs X.ex X.H₀ H X.s₀.heap s.heap
 loc:∃ m,s.heap.Ns X.env.locals m∧∀ (i:Nat) (x:Str) (v:V),X.N[i]? =some x→σ[i]? =some (some v)→Vis X.env.scope x→∃ u,RelV v u∧Look X.env s.heap m x u
 cell:∀ x c,X.env.cells.lookup x=some c→∃ v,s.heap.IsCell c v
 free:H X.env.locals=none
 freeC:∀ x c,X.env.cells.lookup x=some c→H c=none
 pin:∀ p ∈ X.pn++pins,s.heap.get? p.1=some p.2∧H p.1=none∧p.1 ≠ X.env.locals∧p.1 ∉ X.fs∧∀ v,p.2.data ≠ .cell v
 hok:HOk X.prog X.w H s.heap
 len:σ.length=X.N.length
section
variable {X:Cx} {pins:List (Addr × Obj)} {σ:List (Option V)} {H H':Hp} {s:Shared} {h':Heap}
theorem Cx.Ok.nofr (ok:X.Ok) {b:Addr} {o:Obj} (e:X.base.get? b=some o):b ∉ X.fs:=fun hb=>by
 have:=(ok.funs.mem hb).1
 rw[e]at this;cases this
theorem Inv.bs (I:Inv X pins σ H s):∀ b o,X.base.get? b=some o→s.heap.get? b=some o∧H b=none:=fun b o e =>
 ⟨I.base.keep b o (I.ok.bs b o e).1 (I.ok.bs b o e).2 (I.ok.nofr e) (I.ok.noex b o e),I.base.free b o (I.ok.bs b o e).1 (I.ok.bs b o e).2 (I.ok.noex b o e)⟩
theorem Inv.bk (I:Inv X pins σ H s):∀ b o,X.base.get? b=some o→s.heap.get? b=some o:=fun b o e=>(I.bs b o e).1
theorem Inv.mod (I:Inv X pins σ H s):Mod X.K X.mg X.base:=I.ok.mod
theorem Inv.kIn (I:Inv X pins σ H s):X.K.In s.heap:=I.ok.mod.kin.keeps I.bk
theorem Inv.lt (I:Inv X pins σ H s):X.env.locals < s.heap.objs.size:=let ⟨_,hn,_⟩:=I.loc;hn.lt
theorem Inv.sz (I:Inv X pins σ H s):X.s₀.heap.objs.size≤s.heap.objs.size:=Nat.le_trans I.ok.above (Nat.le_of_lt I.lt)
theorem Inv.nofs (I:Inv X pins σ H s) {a:Addr} (h:s.heap.objs.size≤a):a ∉ X.fs:=fun hb=>by
 obtain ⟨_,o,ho,_⟩:=I.ok.funs.mem hb
 exact absurd (Nat.lt_of_lt_of_le (Heap.lt_size ho) (Nat.le_trans I.sz h)) (Nat.lt_irrefl _)
theorem Inv.cne (I:Inv X pins σ H s):∀ x c,X.env.cells.lookup x=some c→c ≠ X.env.locals:=fun x c e z=>by
 obtain ⟨v,o,ho,hd⟩:=I.cell x c e
 obtain ⟨m,⟨o',es,ep,ho',hd',_⟩,_⟩:=I.loc
 rw[z,ho']at ho;cases ho;rw[hd']at hd;cases hd
theorem Inv.funs (I:Inv X pins σ H s):s.heap.FunFrames X.base X.outer:=by
 have all:∀ (l:List Env),(∀ b ∈ frs l,b ∈ X.fs)→X.s₀.heap.FunFrames X.base l→s.heap.FunFrames X.base l:=by
   intro l
   induction l with
   | nil=>intro _ _;trivial
   | cons env r ih =>
     intro hs hl
     obtain ⟨hk,⟨L,o,hf,hn,ho,hd⟩,hr⟩:=hl
     have hL:L ∈ X.fs:=hs L (by unfold frs;rw[List.filterMap_cons,hf];exact List.mem_cons_self)
     obtain ⟨sl,e⟩:=I.base.slot L o ho (I.ok.frf L hL) hL fun z=>I.ok.exfs L z hL
     exact⟨hk,⟨L,_,hf,hn,e,hd⟩,ih (fun b hb=>hs b (by unfold frs;rw[List.filterMap_cons,hf];exact List.mem_cons_of_mem _ hb)) hr⟩
 exact all X.outer (fun _ hb=>hb) I.ok.funs
theorem Inv.stack (I:Inv X pins σ H s):s.heap.FunFrames X.base X.stack:=by
 rcases I.ok.stk with e | ⟨e,hf⟩
 · rw[e];exact I.funs
 · rw[e]
   obtain ⟨m,hn,_⟩:=I.loc
   refine .cons (by rw[I.ok.kind];decide) hf hn ?_ I.funs
   exact Heap.get?_none_of_le (Nat.le_trans I.ok.bsz I.ok.above)
theorem Inv.stkSub (I:Inv X pins σ H s):∀ b ∈ frs X.stack,b ∈ X.env.locals::X.fs:=fun b hb=>by
 rcases I.ok.stk with e | ⟨e,hf⟩
 · rw[e]at hb;exact List.mem_cons_of_mem _ hb
 · rw[e]at hb
   unfold frs at hb
   rw[List.filterMap_cons,hf]at hb
   exact hb
theorem Inv.stkFree (I:Inv X pins σ H s):∀ b ∈ frs X.stack,H b=none:=fun b hb=>by
 rcases List.mem_cons.mp (I.stkSub b hb)with e | hb
 · rw[e];exact I.free
 · obtain ⟨_,o,ho,_⟩:=I.ok.funs.mem hb
   exact I.base.free b o ho (I.ok.frf b hb) fun z=>I.ok.exfs b z hb
theorem Inv.step {g':Array GenState} {t':Nat} {d':Drawn} {ch:List Addr} (I:Inv X pins σ H s)
   (hch:∀ b ∈ ch,(b ∈ X.ex∨X.s₀.heap.objs.size≤b)∧b ≠ X.env.locals∧(∀ x c,X.env.cells.lookup x=some c→c ≠ b)∧∀ p ∈ X.pn++pins,p.1 ≠ b)
   (keep:∀ b o,b ≠ X.env.locals→b ∉ X.fs→b ∉ ch→s.heap.get? b=some o→H b=none→h'.get? b=some o)
   (slot:∀ b o,b ≠ X.env.locals→b ∈ X.fs→b ∉ ch→s.heap.get? b=some o→H b=none→∃ sl,h'.get? b=some { o with slots:=sl }) (free:∀ b o,b ∉ ch→s.heap.get? b=some o→H b=none→H' b=none)
   (there:∀ b o,b ∉ ch→s.heap.get? b=some o→∃ o',h'.get? b=some o')
   (tups:∀ b xs,H b=some (.tup xs)→H' b=some (.tup xs)) (frzs:∀ b o u,H b=some (.frz o u)→H' b=some (.frz o u)) (tbls:∀ b ps,H b=some (.tbl ps)→∃ more,H' b=some (.tbl (ps++more)))
   (ns:∀ m,s.heap.Ns X.env.locals m→h'.Ns X.env.locals m) (hok:HOk X.prog X.w H' h') (hg:AllBare g') :
   Inv X pins σ H' { s with heap:=h',gens:=g',drawn:=d',toks:=t' }:=by
 have neL:∀ b o,X.s₀.heap.get? b=some o→b ≠ X.env.locals:=fun b o e=>Nat.ne_of_lt (Nat.lt_of_lt_of_le (Heap.lt_size e) I.ok.above)
 have neC:∀ b o,X.s₀.heap.get? b=some o→b ∉ X.ex→b ∉ ch:=fun b o e hx hb=>by
   rcases (hch b hb).1 with z | z
   · exact hx z
   · exact absurd (Nat.lt_of_lt_of_le (Heap.lt_size e) z) (Nat.lt_irrefl _)
 have cellK:∀ x c,X.env.cells.lookup x=some c→∀ v,s.heap.IsCell c v→h'.IsCell c v:=fun x c e v ⟨o,ho,hd⟩=>by
   have nch:c ∉ ch:=fun z=>(hch c z).2.2.1 x c e rfl
   by_cases hc:c ∈ X.fs
   · obtain ⟨sl,q⟩:=slot c o (I.cne x c e) hc nch ho (I.freeC x c e)
     exact⟨_,q,hd⟩
   · exact⟨o,keep c o (I.cne x c e) hc nch ho (I.freeC x c e),hd⟩
 refine⟨I.ok,I.os,hg,⟨fun b o e n hb hx=> ?_,fun b o e n hb hx=> ?_,fun b o e n hx=> ?_,fun b o e hx=> ?_,fun b xs e=>tups b xs (I.base.tups b xs e),fun b o xs e=>frzs b o xs (I.base.frzs b o xs e),fun b ps e=> ?_⟩,?_,fun x c e=> ?_,?_,fun x c e=> ?_,fun p hp=> ?_,hok,I.len⟩
 · exact keep b o (neL b o e) hb (neC b o e hx) (I.base.keep b o e n hb hx) (I.base.free b o e n hx)
 · obtain ⟨sl,e1⟩:=I.base.slot b o e n hb hx
   obtain ⟨sl',e2⟩:=slot b _ (neL b o e) hb (neC b o e hx) e1 (I.base.free b o e n hx)
   exact⟨sl',e2⟩
 · obtain ⟨o',e1⟩:=I.base.there b o e hx
   exact free b o' (neC b o e hx) e1 (I.base.free b o e n hx)
 · obtain ⟨o',e1⟩:=I.base.there b o e hx
   exact there b o' (neC b o e hx) e1
 · obtain ⟨m1,e1⟩:=I.base.tbls b ps e
   obtain ⟨m2,e2⟩:=tbls b _ e1
   exact⟨m1++m2,by rw[e2,Array.append_assoc]⟩
 · obtain ⟨m,hn,hl⟩:=I.loc
   refine⟨m,ns m hn,fun i x v e1 e2 e3=> ?_⟩
   obtain ⟨u,r,l⟩:=hl i x v e1 e2 e3
   refine⟨u,r,?_⟩
   rcases l with l | ⟨k,c,e,z⟩
   · exact .inl l
   · exact .inr ⟨k,c,e,cellK x c e _ z⟩
 · obtain ⟨v,z⟩:=I.cell x c e
   exact⟨v,cellK x c e v z⟩
 · obtain ⟨m,⟨o,_,_,ho,_⟩,_⟩:=I.loc
   exact free _ o (fun z=>(hch _ z).2.1 rfl) ho I.free
 · obtain ⟨v,o,ho,hd⟩:=I.cell x c e
   exact free c o (fun z=>(hch c z).2.2.1 x c e rfl) ho (I.freeC x c e)
 · obtain ⟨e,n,ne,nf,d⟩:=I.pin p hp
   have nch:p.1 ∉ ch:=fun z=>(hch p.1 z).2.2.2 p hp rfl
   exact⟨keep p.1 p.2 ne nf nch e n,free p.1 p.2 nch e n,ne,nf,d⟩
theorem Inv.un {t':Nat} (I:Inv X pins σ H s) (u:Un X.fs [] H H' s.heap h') (hok:HOk X.prog X.w H' h'):Inv X pins σ H' { s with heap:=h',toks:=t' }:=by
 obtain ⟨m,⟨o,es,ep,ho,r⟩,_⟩:=id I.loc
 obtain ⟨sl,hL⟩:=u.any ho I.free (by simp)
 exact I.step (g':=s.gens) (d':=s.drawn) (ch:=[]) (fun _ z=>nomatch z) (fun b o _ hb _ e n=>u.keep b o e n hb (by simp)) (fun b o _ hb _ e n=>u.slot b o e n hb (by simp)) (fun b o _ e n=>u.free b o e n (by simp)) (fun b o _ e=>u.there b o e (by simp)) u.tups u.frzs u.tbls (fun m' hm=>by
   obtain ⟨o',es',ep',ho',r'⟩:=hm
   rw[ho]at ho';cases ho'
   exact⟨_,es',ep',hL,r'⟩) hok I.bare
theorem Inv.call {g':Array GenState} {t':Nat} {d':Drawn} {ch:List Addr} (I:Inv X pins σ H s) (u:Un (frs X.stack) ch H H' s.heap h') (hok:HOk X.prog X.w H' h') (hg:AllBare g')
   (hch:∀ b ∈ ch,(b ∈ X.ex∨X.s₀.heap.objs.size≤b)∧b ≠ X.env.locals∧(∀ x c,X.env.cells.lookup x=some c→c ≠ b)∧∀ p ∈ X.pn++pins,p.1 ≠ b) :
   Inv X pins σ H' { s with heap:=h',gens:=g',drawn:=d',toks:=t' }:=by
 obtain ⟨m,⟨o,es,ep,ho,r⟩,_⟩:=id I.loc
 obtain ⟨sl,hL⟩:=u.any ho I.free fun z=>(hch _ z).2.1 rfl
 exact I.step (ch:=ch) hch (fun b o hL hb hc e n=>u.keep b o e n (fun z=>(List.mem_cons.mp (I.stkSub b z)).elim hL hb) hc) (fun b o _ _ hc e n=>u.any e n hc) (fun b o hc e n=>u.free b o e n hc) (fun b o hc e=>u.there b o e hc) u.tups u.frzs u.tbls (fun m' hm=>by
   obtain ⟨o',es',ep',ho',r'⟩:=hm
   rw[ho]at ho';cases ho'
   exact⟨_,es',ep',hL,r'⟩) hok hg
theorem Inv.turned {t':Nat} {it:Addr} (I:Inv X pins σ H s) (k:∀ b o,b ≠ it→s.heap.get? b=some o→h'.get? b=some o) (hn:H it=none) (hL:it ≠ X.env.locals)
   (h1:it ∈ X.ex∨X.s₀.heap.objs.size≤it) (h2:∀ x c,X.env.cells.lookup x=some c→c ≠ it) (h3:∀ p ∈ X.pn++pins,p.1 ≠ it):Inv X pins σ H { s with heap:=h',toks:=t' }:=by
 have nit:∀ b u,H b=some u→b ≠ it:=fun b u e z=>by rw[z,hn]at e;cases e
 refine I.step (g':=s.gens) (d':=s.drawn) (ch:=[it]) (fun b hb=> ?_) (fun b o _ _ hc e _=>k b o (fun z=>hc (by simp [z])) e) (fun b o _ _ hc e _=>⟨o.slots,k b o (fun z=>hc (by simp [z])) e⟩) (fun _ _ _ _ n=>n)
   (fun b o hc e=>⟨o,k b o (fun z=>hc (by simp [z])) e⟩) (fun _ _ e=>e) (fun _ _ _ e=>e) (fun b ps e=>⟨#[],by rw[e];simp⟩) (fun m hm=> ?_) (fun b u e=> ?_) I.bare
 · have e:b=it:=by simpa using hb
   subst e
   exact⟨h1,hL,h2,h3⟩
 · obtain ⟨o,es,ep,ho,r⟩:=hm
   exact⟨o,es,ep,k _ o (Ne.symm hL) ho,r⟩
 · refine(I.hok b u e).stay (fun c v hc q=>k c v ?_ q) (fun _ q=>q) fun _ _ q=>q
   rcases hc with z | z
   · rw[z];exact nit b u e
   · exact nit c _ z
theorem Inv.tok (I:Inv X pins σ H s) (t:Nat):Inv X pins σ H { s with toks:=t }:=I.un (h':=s.heap) (t':=t) Un.refl I.hok
theorem Inv.kept {t':Nat} (I:Inv X pins σ H s) (k:∀ b u,s.heap.get? b=some u→h'.get? b=some u):Inv X pins σ H { s with heap:=h',toks:=t' }:=I.un (Un.kept k) (I.hok.kept k)
theorem Inv.laid {a:Addr} {o:HO} {t':Nat} (I:Inv X pins σ H s) (k:∀ b u,s.heap.get? b=some u→h'.get? b=some u) (hp:s.heap.objs.size≤a) (new:qad X.prog X.w (upd H a o) h' a o) :
   Inv X pins σ (upd H a o) { s with heap:=h',toks:=t' }:=I.un (Un.laid k hp (I.hok.fresh hp)) (I.hok.laid k hp new)
theorem Inv.write {x e:Addr} {o:HO} {t':Nat} (I:Inv X pins σ H s) (mu:Mut (H x)) (he:e=x∨H e=some (.own x)) (k:∀ b u,b ≠ e→s.heap.get? b=some u→h'.get? b=some u) (heo:∃ u,h'.get? e=some u)
   (new:qad X.prog X.w (upd H x o) h' x o):Inv X pins σ (upd H x o) { s with heap:=h',toks:=t' }:=I.un (Un.write mu he k heo) (I.hok.write mu he k heo new)
theorem Inv.weak {σ':List (Option V)} (I:Inv X pins σ H s) (hl:σ'.length=σ.length) (w:∀ (i:Nat) v,σ'[i]? =some (some v)→σ[i]? =some (some v)):Inv X pins σ' H s :=
 ⟨I.ok,I.os,I.bare,I.base,let ⟨m,hn,hl'⟩:=I.loc;⟨m,hn,fun i x v e1 e2 e3=>hl' i x v e1 (w i v e2) e3⟩,I.cell,I.free,I.freeC,I.pin,I.hok,hl.trans I.len⟩
theorem Inv.pins_of {pins':List (Addr × Obj)} (I:Inv X pins σ H s) (h:∀ p ∈ pins',s.heap.get? p.1=some p.2∧H p.1=none∧p.1 ≠ X.env.locals∧p.1 ∉ X.fs∧∀ v,p.2.data ≠ .cell v):Inv X pins' σ H s :=
 ⟨I.ok,I.os,I.bare,I.base,I.loc,I.cell,I.free,I.freeC,fun p hp=>(List.mem_append.mp hp).elim (fun z=>I.pin p (List.mem_append_left _ z)) (h p),I.hok,I.len⟩
theorem qhw {N:List Str} (hN:N.Nodup) {i j:Nat} {x:Str} (a:N[i]? =some x) (b:N[j]? =some x):i=j:=by
 obtain ⟨h1,e1⟩:=List.getElem?_eq_some_iff.mp a
 obtain ⟨h2,e2⟩:=List.getElem?_eq_some_iff.mp b
 exact(List.getElem_inj hN).mp (e1.trans e2.symm)
theorem qj4 {M:Model} {A:Around} {E:Value→Shared→Prop} {i:Nat} {x:Str} {v:V} {u:Value} {Q:Unit→Shared→Prop} (I:Inv X pins σ H s) (hN:X.N.Nodup) (hi:X.N[i]? =some x) (hx:Loc X.env.scope x) (r:RelV v u)
   (h:∀ s',Inv X pins (σ.set i (some v)) H s'→(∃ a,Heap.SameBut a s.heap s'.heap∧(a=X.env.locals∨X.env.cells.lookup x=some a))→Q () s') (hf:X.fn x=true∨X.env.scope.names.lookup x=some .local:=by first | exact .inl rfl | exact .inr rfl | assumption):wpAny M A (storeName X.env x u) Q E s:=by
 obtain ⟨m,hn,hl⟩:=id I.loc
 have hcls:(X.env.scope.kind==.class || (X.env.scope.kind==.module && X.env.locals != X.env.globals))=false:=by rw[I.ok.kind];rfl
 have hiσ:i < σ.length:=by rw[I.len];exact(List.getElem?_eq_some_iff.mp hi).1
 have cne:=I.cne
 have tracked:∀ {a:Addr} {h':Heap},(∃ o,s.heap.get? a=some o∧H a=none)→Heap.SameBut a s.heap h'→HOk X.prog X.w H h':=fun {a h'} ha hs b ob e=>by
   obtain ⟨_,_,hfree⟩:=ha
   refine(I.hok b ob e).stay (fun c w' hc q=>(hs.2 c ?_).trans q) (fun _ q=>q) fun _ _ q=>q
   rintro rfl
   rcases hc with rfl | hc
   · rw[hfree]at e;cases e
   · rw[hfree]at hc;cases hc
 rcases hx with hk | hk
 · refine wpAny_storeName_local hk hn (fun h' hn' hs=> ?_) hcls
   obtain ⟨oL,_,_,hoL,_⟩:=id hn
   refine h _ ⟨I.ok,I.os,I.bare,⟨fun b o e n hb hx=> ?_,fun b o e n hb hx=> ?_,I.base.free,fun b o e hx=> ?_,I.base.tups,I.base.frzs,I.base.tbls⟩,⟨_,hn',fun j y v' e1 e2 e3=> ?_⟩,fun y c e=> ?_,I.free,I.freeC,fun p hp=> ?_,tracked ⟨oL,hoL,I.free⟩ hs,by simpa using I.len⟩ ⟨_,hs,.inl rfl⟩
   · exact(hs.2 b (Nat.ne_of_lt (Nat.lt_of_lt_of_le (Heap.lt_size e) I.ok.above))).trans (I.base.keep b o e n hb hx)
   · obtain ⟨sl,e1⟩:=I.base.slot b o e n hb hx
     exact⟨sl,(hs.2 b (Nat.ne_of_lt (Nat.lt_of_lt_of_le (Heap.lt_size e) I.ok.above))).trans e1⟩
   · obtain ⟨o',e1⟩:=I.base.there b o e hx
     exact⟨o',(hs.2 b (Nat.ne_of_lt (Nat.lt_of_lt_of_le (Heap.lt_size e) I.ok.above))).trans e1⟩
   · by_cases hj:j=i
     · subst hj
       rw[hi]at e1;cases e1
       rw[List.getElem?_set_self hiσ]at e2
       cases e2
       exact⟨u,r,.inl ⟨hk,by simp⟩⟩
     · rw[List.getElem?_set_ne (Ne.symm hj)]at e2
       obtain ⟨u',r',q⟩:=hl j y v' e1 e2 e3
       refine⟨u',r',?_⟩
       rcases q with ⟨k,e⟩ | ⟨k,c,e,z⟩
       · refine .inl ⟨k,?_⟩
         have:y ≠ x:=fun e=>hj (qhw hN e1 (e ▸ hi))
         simp [this,e]
       · exact .inr ⟨k,c,e,z.sameBut hs (cne y c e)⟩
   · obtain ⟨w',z⟩:=I.cell y c e
     exact⟨w',z.sameBut hs (cne y c e)⟩
   · obtain ⟨e,n,ne,nf,d⟩:=I.pin p hp
     exact⟨(hs.2 p.1 ne).trans e,n,ne,nf,d⟩
 · have hfn:X.fn x=true:=by
     rcases hf with z | z
     · exact z
     · rw[z]at hk;cases hk
   obtain ⟨c,hc⟩:=I.ok.has x (.inl hk)
   obtain ⟨w',z⟩:=I.cell x c hc
   refine wpAny_storeName_cell I.ok.kind hk hc z (fun h' hc' hs=> ?_)
   obtain ⟨oc,hoc,hocd⟩:=id z
   refine h { s with heap:=h' } ⟨I.ok,I.os,I.bare,⟨fun b o e n hb hx=> ?_,fun b o e n hb hx=> ?_,I.base.free,fun b o e hx=> ?_,I.base.tups,I.base.frzs,I.base.tbls⟩,⟨m,hn.sameBut hs (Ne.symm (cne x c hc)),fun j y v' e1 e2 e3=> ?_⟩,fun y c' e=> ?_,I.free,I.freeC,fun p hp=> ?_,tracked ⟨oc,hoc,I.freeC x c hc⟩ hs,by simpa using I.len⟩ ⟨c,hs,.inr hc⟩
   · exact(hs.2 b (Nat.ne_of_lt (Nat.lt_of_lt_of_le (Heap.lt_size e) (I.ok.cab x c hfn hc)))).trans (I.base.keep b o e n hb hx)
   · obtain ⟨sl,e1⟩:=I.base.slot b o e n hb hx
     exact⟨sl,(hs.2 b (Nat.ne_of_lt (Nat.lt_of_lt_of_le (Heap.lt_size e) (I.ok.cab x c hfn hc)))).trans e1⟩
   · obtain ⟨o',e1⟩:=I.base.there b o e hx
     exact⟨o',(hs.2 b (Nat.ne_of_lt (Nat.lt_of_lt_of_le (Heap.lt_size e) (I.ok.cab x c hfn hc)))).trans e1⟩
   · by_cases hj:j=i
     · subst hj
       rw[hi]at e1;cases e1
       rw[List.getElem?_set_self hiσ]at e2
       cases e2
       exact⟨u,r,.inr ⟨.inl hk,c,hc,hc'⟩⟩
     · rw[List.getElem?_set_ne (Ne.symm hj)]at e2
       obtain ⟨u',r',q⟩:=hl j y v' e1 e2 e3
       refine⟨u',r',?_⟩
       rcases q with q | ⟨k,c',e,z'⟩
       · exact .inl q
       · refine .inr ⟨k,c',e,z'.sameBut hs ?_⟩
         rintro rfl
         exact hj (qhw hN e1 (I.ok.inj _ _ _ e hc ▸ hi))
   · by_cases hcc:c'=c
     · subst hcc;exact⟨_,hc'⟩
     · obtain ⟨w2,z2⟩:=I.cell y c' e
       exact⟨w2,z2.sameBut hs hcc⟩
   · obtain ⟨e,n,ne,nf,d⟩:=I.pin p hp
     refine⟨(hs.2 p.1 ?_).trans e,n,ne,nf,d⟩
     intro q
     rw[q,hoc]at e
     have q':oc=p.2:=Option.some.inj e
     exact d w' (by rw[← q'];exact hocd)
theorem qhx {M:Model} {A:Around} {E:Value→Shared→Prop} {i:Nat} {x:Str} {v:V} {u:Value} {Q:Unit→Shared→Prop} (I:Inv X pins σ H s) (hN:X.N.Nodup) (hi:X.N[i]? =some x) (hx:Loc X.env.scope x) (r:RelV v u)
   (h:∀ s',Inv X pins (σ.set i (some v)) H s'→Q () s') (hf:X.fn x=true∨X.env.scope.names.lookup x=some .local:=by first | exact .inl rfl | exact .inr rfl | assumption):wpAny M A (storeName X.env x u) Q E s :=
 qj4 I hN hi hx r (fun s' I' _=>h s' I') hf
theorem Inv.call' {s':Shared} {ch:List Addr} (I:Inv X pins σ H s) (ho:s'.os=s.os) (u:Un (frs X.stack) ch H H' s.heap s'.heap) (hok:HOk X.prog X.w H' s'.heap) (hg:AllBare s'.gens)
   (hch:∀ b ∈ ch,(b ∈ X.ex∨X.s₀.heap.objs.size≤b)∧b ≠ X.env.locals∧(∀ x c,X.env.cells.lookup x=some c→c ≠ b)∧∀ p ∈ X.pn++pins,p.1 ≠ b):Inv X pins σ H' s':=by
 obtain ⟨h',g',d',t',o'⟩:=s'
 have e:o'=s.os:=ho
 subst e
 exact I.call (g':=g') (t':=t') (d':=d') u hok hg hch
end
noncomputable abbrev XK:=Value→Option Addr→Hp→Prop
noncomputable abbrev St:=List (Option V)
noncomputable abbrev VK:=V→Hp→Prop
noncomputable abbrev TE:=St→Hp→VK→Prop
noncomputable abbrev TT:=St→Hp→(Bool→Hp→Prop)→Prop
noncomputable abbrev TA:=St→Hp→(List V→Hp→Prop)→Prop
set_option genInjectivity false in
set_option genInjectivity false in
structure Ends where
 nx:St→Hp→Prop
 rt:VK
 bk:St→Hp→Prop:=fun _ _=>False
 ct:St→Hp→Prop:=fun _ _=>False
noncomputable abbrev TS:=Ends→St→Hp→Prop
noncomputable def EP (X:Cx) (pins:List (Addr × Obj)) (σ:St) (Q:VK) (u:Value) (s':Shared):Prop:=∃ v H',Inv X pins σ H' s'∧RelV v u∧Q v H'
noncomputable def TP (X:Cx) (pins:List (Addr × Obj)) (σ:St) (Q:Bool→Hp→Prop) (b:Bool) (s':Shared):Prop:=∃ H',Inv X pins σ H' s'∧Q b H'
noncomputable def AP (X:Cx) (pins:List (Addr × Obj)) (σ:St) (Q:List V→Hp→Prop) (us:List Value) (s':Shared):Prop:=∃ vs H',Inv X pins σ H' s'∧Vals vs us∧Q vs H'
noncomputable def SP (X:Cx) (pins:List (Addr × Obj)) (D:Ends) (f:Flow) (s':Shared):Prop :=
 match f with
 | .next=>∃ σ' H',Inv X pins σ' H' s'∧D.nx σ' H'
 | .brk=>∃ σ' H',Inv X pins σ' H' s'∧D.bk σ' H'
 | .cont=>∃ σ' H',Inv X pins σ' H' s'∧D.ct σ' H'
 | .ret u=>∃ v σ' H',Inv X pins σ' H' s'∧RelV v u∧D.rt v H'
noncomputable def PE (X:Cx) (e:Expr) (t:TE):Prop :=
 ∀ (pins:List (Addr × Obj)) (s:Shared) (σ:St) (H:Hp) (Q:VK),Inv X pins σ H s→t σ H Q→wpAny (model X.prog X.w) X.A (eval e X.env) (EP X pins σ Q) X.xe s
noncomputable def PT (X:Cx) (e:Expr) (t:TT):Prop :=
 ∀ (pins:List (Addr × Obj)) (s:Shared) (σ:St) (H:Hp) (Q:Bool→Hp→Prop),Inv X pins σ H s→t σ H Q→wpAny (model X.prog X.w) X.A (isTrue e X.env (eval e X.env)) (TP X pins σ Q) X.xe s
noncomputable def PW (X:Cx) (e:Expr) (t:TT):Prop :=
 ∀ (whole:Sem Value) (pins:List (Addr × Obj)) (s:Shared) (σ:St) (H:Hp) (Q:Bool→Hp→Prop),Inv X pins σ H s→t σ H Q→wpAny (model X.prog X.w) X.A (isTrue e X.env whole) (TP X pins σ Q) X.xe s
theorem PW.pt {X:Cx} {e:Expr} {t:TT} (h:PW X e t):PT X e t:=h _
noncomputable def PA (X:Cx) (es:List Expr) (t:TA):Prop :=
 ∀ (pos:Pos) (pins:List (Addr × Obj)) (s:Shared) (σ:St) (H:Hp) (Q:List V→Hp→Prop),Inv X pins σ H s→t σ H Q→wpAny (model X.prog X.w) X.A (spliced (backTo pos (starEach es X.env))) (AP X pins σ Q) X.xe s
noncomputable def PS (X:Cx) (st:Stmt) (t:TS):Prop :=
 ∀ (pins:List (Addr × Obj)) (s:Shared) (σ:St) (H:Hp) (D:Ends),Inv X pins σ H s→t D σ H→wpAny (model X.prog X.w) X.A (exec st X.env) (SP X pins D) X.xe s
noncomputable def PSs (X:Cx) (st:List Stmt) (t:TS):Prop :=
 ∀ (pins:List (Addr × Obj)) (s:Shared) (σ:St) (H:Hp) (D:Ends),Inv X pins σ H s→t D σ H→wpAny (model X.prog X.w) X.A (execs st X.env) (SP X pins D) X.xe s
theorem thn {α:Type} {t:Sem α} {Q Q':α→Shared→Prop} {M:Model} {A:Around} {E:Value→Shared→Prop} {s:Shared} (h:wpAny M A t Q E s) (hQ:∀ a s,Q a s→Q' a s):wpAny M A t Q' E s:=wpAny_mono h hQ fun _ _ x=>x
section
variable {X:Cx}
noncomputable def qhy (i:Nat):TE:=fun σ H Q=>∃ v,σ[i]? =some (some v)∧Q v H
noncomputable def tC (v:V):TE:=fun _ H Q=>Q v H
theorem qhz {i:Nat} {x:Str} {pos:Pos} (hN:X.N[i]? =some x) (hv:Vis X.env.scope x) (hd:(x==("__debug__":Str))=false:=by decide) (hcd:(x==("__classdict__":Str))=false:=by decide):PE X (.Name x pos) (qhy i):=by
 intro pins s σ H Q I h
 obtain ⟨v,e,h⟩:=h
 obtain ⟨m,hn,hl⟩:=I.loc
 obtain ⟨u,r,l⟩:=hl i x v hN e hv
 have fin:EP X pins σ Q u s:=⟨v,H,I,r,h⟩
 rcases l with ⟨hk,hm⟩ | ⟨hk,c,hc,hcell⟩
 · exact wpAny_Name (wpAny_loadName_local I.ok.kind hk hn hm fin) hd
 · rcases hk with hk | hk
   · exact wpAny_Name (wpAny_loadName_cell I.ok.kind hk hc hcell fin) hd
   · exact wpAny_Name (wpAny_loadName_free I.ok.kind hk hc hcell fin hcd) hd
theorem qh0 {i j pos}:PE X (.Constant (.int i) j pos) (tC (.int i)):=fun _ _ _ H _ I h=>wpAny_Constant_int ⟨.int i,H,I.tok _,⟨_,rfl⟩,h⟩
theorem q2p {b j pos}:PE X (.Constant (.bool b) j pos) (tC (.bl b)):=fun _ _ _ H _ I h=>Constant_bool ⟨.bl b,H,I,rfl,h⟩
theorem qza {j pos}:PE X (.Constant .none j pos) (tC .non):=fun _ _ _ H _ I h=>Constant_none ⟨.non,H,I,rfl,h⟩
theorem qfx {x j pos}:PE X (.Constant (.str x) j pos) (tC (.str x)):=fun _ _ _ H _ I h=>Calls.Constant_str ⟨.str x,H,I.tok _,⟨_,rfl⟩,h⟩
noncomputable def Gl (X:Cx) (x:Str):Prop:=X.env.kindOf x=some .globalImplicit
theorem qbs {E:Value→Shared→Prop} {pins:List (Addr × Obj)} {s:Shared} {σ:St} {H:Hp} {x:Str} {u:Value} {pos:Pos} {Q:Value→Shared→Prop} (I:Inv X pins σ H s) (hg:Gl X x) (hm:X.mg x=some u) (h:Q u s)
   (hd:(x==("__debug__":Str))=false:=by decide):wpAny (model X.prog X.w) X.A (eval (.Name x pos) X.env) Q E s :=
 Calls.Name_function_global I.ok.kind hg (Calls.loadGlobal_global (by rw[I.ok.glob];exact I.mod.glob.keeps I.bk) hm h) hd
theorem qfy {E:Value→Shared→Prop} {pins:List (Addr × Obj)} {s:Shared} {σ:St} {H:Hp} {x:Str} {u:Value} {pos:Pos} {Q:Value→Shared→Prop} (I:Inv X pins σ H s) (hg:Gl X x) (hm:X.mg x=none) (hv:bootBuiltins x=some u) (h:Q u s)
   (hn:x ≠ "__name__":=by decide) (hd:(x==("__debug__":Str))=false:=by decide):wpAny (model X.prog X.w) X.A (eval (.Name x pos) X.env) Q E s:=by
 obtain ⟨mb,h1,h2⟩:=I.mod.blt
 exact Calls.Name_function_global I.ok.kind hg (Calls.loadGlobal_builtin (by rw[I.ok.glob];exact I.mod.glob.keeps I.bk) hm (by rw[I.ok.blt];exact h1.keeps I.bk) ((h2 x hn).trans hv) h) hd
theorem qvw {x:Str} {v:V} {u:Value} {pos:Pos} (hg:Gl X x) (hm:X.mg x=some u) (r:RelV v u) (hd:(x==("__debug__":Str))=false:=by decide):PE X (.Name x pos) (tC v) :=
 fun _ _ _ H _ I h=>qbs I hg hm ⟨v,H,I,r,h⟩ hd
theorem qvx {x:Str} {v:V} {u:Value} {pos:Pos} (hg:Gl X x) (hm:X.mg x=none) (hv:bootBuiltins x=some u) (r:RelV v u) (hn:x ≠ "__name__":=by decide) (hd:(x==("__debug__":Str))=false:=by decide):PE X (.Name x pos) (tC v) :=
 fun _ _ _ H _ I h=>qfy I hg hm hv ⟨v,H,I,r,h⟩ hn hd
variable {a b:Expr} {ta tb:TE} {pos:Pos}
noncomputable def PC (X:Cx) (op:CmpOp) (a b:Expr) (t:TE):Prop :=
 ∀ (pins:List (Addr × Obj)) (s:Shared) (σ:St) (H:Hp) (Q:VK),Inv X pins σ H s→t σ H Q →
   wpAny (model X.prog X.w) X.A (eval a X.env) (fun v s₁=>wpAny (model X.prog X.w) X.A (eval b X.env) (fun u s₂=>wpAny (model X.prog X.w) X.A (compareOp op v u) (EP X pins σ Q) X.xe s₂) X.xe s₁) X.xe s
noncomputable def tB (t:TE):TT:=fun σ H Q=>t σ H fun x H1=>∃ c,x=.bl c∧Q c H1
theorem qzb {op:CmpOp} {t:TE} (h:PC X op a b t) (h1:behindInMarks op b=false:=by first | exact nobehind _ (by decide) (by decide) | rfl):PT X (.Compare a [op] [b] pos) (tB t):=by
 intro pins s σ H Q I hw
 refine wpAny_isTrue_Compare1 (thn (h pins s σ H _ I hw) fun v s1 h1=>thn h1 fun u s2 h2=>thn h2 fun c s3 ⟨x,H1,I1,r1,q1⟩=> ?_) h1
 obtain ⟨d,rfl,q⟩:=q1
 cases r1
 exact wpAny_truthy_bool ⟨H1,I1,q⟩
variable {tA tB':TT} {rest:List Expr}
noncomputable def q51 (t u:TT):TT:=fun σ H Q=>t σ H fun c H1=>if c=true then u σ H1 Q else Q false H1
noncomputable def tOr (t u:TT):TT:=fun σ H Q=>t σ H fun c H1=>if c=true then Q true H1 else u σ H1 Q
noncomputable def q52 (t:TT):TT:=fun σ H Q=>t σ H fun c H1=>Q (!c) H1
theorem qvy (ha:PT X a tA):PW X (.BoolOp .And [a] pos) tA:=by
 intro wh pins s σ H Q I h
 refine isTrue_and (thn (ha pins s σ H Q I h) fun c s1 e=> ?_)
 cases c with
 | true=>exact isTrue_and_nil e
 | false=>exact e
theorem qzc (ha:PT X a tA):PW X (.BoolOp .Or [a] pos) tA:=by
 intro wh pins s σ H Q I h
 refine isTrue_or (thn (ha pins s σ H Q I h) fun c s1 e=> ?_)
 cases c with
 | false=>exact isTrue_or_nil e
 | true=>exact e
theorem qzd (ha:PT X a tA) (hb:PW X (.BoolOp .And (b::rest) pos) tB'):PW X (.BoolOp .And (a::b::rest) pos) (q51 tA tB'):=by
 intro wh pins s σ H Q I h
 refine isTrue_and (thn (ha pins s σ H _ I h) fun c s1 ⟨H1,I1,q1⟩=> ?_)
 cases c with
 | true=>exact hb wh pins s1 σ H1 Q I1 q1
 | false=>exact⟨H1,I1,q1⟩
theorem q2q (ha:PT X a tA) (hb:PW X (.BoolOp .Or (b::rest) pos) tB'):PW X (.BoolOp .Or (a::b::rest) pos) (tOr tA tB'):=by
 intro wh pins s σ H Q I h
 refine isTrue_or (thn (ha pins s σ H _ I h) fun c s1 ⟨H1,I1,q1⟩=> ?_)
 cases c with
 | true=>exact⟨H1,I1,q1⟩
 | false=>exact hb wh pins s1 σ H1 Q I1 q1
theorem qze (ha:PT X a tA):PT X (.UnaryOp .Not a pos) (q52 tA):=by
 intro pins s σ H Q I h
 exact isTrue_not (ha pins s σ H (fun c H1=>Q (!c) H1) I h)
noncomputable def q2r (ta tb:TE):TE:=fun σ H Q=>ta σ H fun x H1=>∃ c,x=.bl c∧if c=true then tb σ H1 Q else Q (.bl false) H1
noncomputable def q53 (ta tb:TE):TE:=fun σ H Q=>ta σ H fun x H1=>∃ c,x=.bl c∧if c=true then Q (.bl true) H1 else tb σ H1 Q
noncomputable def q2s (ta:TE):TE:=fun σ H Q=>ta σ H fun x H1=>∃ c,x=.bl c∧Q (.bl (!c)) H1
theorem qzf {op} {t:TE} (h:PE X a t):PE X (.BoolOp op [a] pos) t:=fun pins s σ H Q I hw=>BoolOp_one (h pins s σ H Q I hw)
theorem qzg (ha:PE X a ta) (hb:PE X (.BoolOp .And (b::rest) pos) tb):PE X (.BoolOp .And (a::b::rest) pos) (q2r ta tb):=by
 intro pins s σ H Q I h
 refine BoolOp_and (thn (ha pins s σ H _ I h) fun v s1 ⟨x,H1,I1,r1,q1⟩=> ?_)
 obtain ⟨c,rfl,q1⟩:=q1
 cases r1
 refine wpAny_truthy_bool ?_
 cases c with
 | true=>exact hb pins s1 σ H1 Q I1 q1
 | false=>exact⟨.bl false,H1,I1,rfl,q1⟩
theorem q2t (ha:PE X a ta) (hb:PE X (.BoolOp .Or (b::rest) pos) tb):PE X (.BoolOp .Or (a::b::rest) pos) (q53 ta tb):=by
 intro pins s σ H Q I h
 refine BoolOp_or (thn (ha pins s σ H _ I h) fun v s1 ⟨x,H1,I1,r1,q1⟩=> ?_)
 obtain ⟨c,rfl,q1⟩:=q1
 cases r1
 refine wpAny_truthy_bool ?_
 cases c with
 | false=>exact hb pins s1 σ H1 Q I1 q1
 | true=>exact⟨.bl true,H1,I1,rfl,q1⟩
theorem qzh (ha:PE X a ta):PE X (.UnaryOp .Not a pos) (q2s ta):=by
 intro pins s σ H Q I h
 refine UnaryOp_ (thn (ha pins s σ H _ I h) fun v s1 ⟨x,H1,I1,r1,q1⟩=> ?_)
 obtain ⟨c,rfl,q1⟩:=q1
 cases r1
 exact not_of (wpAny_truthy_bool ⟨.bl (!c),H1,I1,rfl,q1⟩)
noncomputable def tIf (t:TT) (ta tb:TE):TE:=fun σ H Q=>t σ H fun c H1=>if c=true then ta σ H1 Q else tb σ H1 Q
theorem qsq {c:Expr} (hc:PT X c tA) (ha:PE X a ta) (hb:PE X b tb):PE X (.IfExp c a b pos) (tIf tA ta tb):=by
 intro pins s σ H Q I h
 refine wpAny_IfExp (thn (hc pins s σ H _ I h) fun d s1 ⟨H1,I1,q1⟩=> ?_)
 cases d with
 | true=>exact ha pins s1 σ H1 Q I1 q1
 | false=>exact hb pins s1 σ H1 Q I1 q1
end
noncomputable def SqL (K:PySem.W.Frag) (H:Hp) (a:Addr) (xs:List V):Prop :=
 Rd H a (.lst xs) ∨
   ∃ (o:Obj) (its:Array Value) (n:Nat),K.lookup a=some o∧o.cls=.type "list"∧o.dict=none∧o.data=.seq its n∧its.size≤sizeLine∧Vals xs its.toList
noncomputable def SqT (K:PySem.W.Frag) (H:Hp) (a:Addr) (xs:List V):Prop :=
 Rd H a (.tup xs) ∨
   ∃ (o:Obj) (its:Array Value) (n:Nat),K.lookup a=some o∧o.cls=.type "tuple"∧o.data=.seq its n∧its.size≤sizeLine∧Vals xs its.toList
noncomputable def q54:Value→Option V
 | .none=>some .non
 | .bool b=>some (.bl b)
 | .int i _=>some (.int i)
 | .str x _=>some (.str x)
 | .bytes b _=>some (.byt b)
 | .float b _=>some (.flt b)
 | .ref a=>some (.ref a)
 | .type n=>some (.ty n)
 | _=>none
theorem RelV.abs {x:V} {u:Value} (r:RelV x u):q54 u=some x:=by
 cases x with
 | non=>cases r;rfl
 | bl _=>cases r;rfl
 | int _=>obtain ⟨t,rfl⟩:=r;rfl
 | str _=>obtain ⟨t,rfl⟩:=r;rfl
 | byt _=>obtain ⟨t,rfl⟩:=r;rfl
 | flt _=>obtain ⟨t,rfl⟩:=r;rfl
 | ref _=>cases r;rfl
 | ty _=>cases r;rfl
theorem RelV.inj {x y:V} {u:Value} (r:RelV x u) (q:RelV y u):x=y:=Option.some.inj (r.abs.symm.trans q.abs)
theorem Vals.inj:∀ {xs ys:List V} {us:List Value},Vals xs us→Vals ys us→xs=ys
 | _,_,_,.nil,.nil=>rfl
 | _,_,_,.cons r t,.cons r' t'=>by rw[r.inj r',Vals.inj t t']
section
variable {X:Cx} {pins:List (Addr × Obj)} {σ:St} {H:Hp} {s:Shared} {a:Addr} {xs ys:List V}
theorem SqL.of {K:PySem.W.Frag} (h:H a=some (.lst xs)):SqL K H a xs:=.inl (.inl h)
theorem SqT.of {K:PySem.W.Frag} (h:H a=some (.tup xs)):SqT K H a xs:=.inl (.inl h)
theorem Inv.list (I:Inv X pins σ H s) (h:SqL X.K H a xs):∃ its:List Value,Vals xs its∧PlainL s.heap a its.toArray∧xs.length≤sizeLine:=by
 rcases h with h | ⟨o,its,n,hk,hc,hd,hs,hz,r⟩
 · obtain ⟨z,its,n,r,e⟩:=h.ok I.hok
   exact⟨its,r,⟨_,n,e,rfl,rfl,rfl⟩,z⟩
 · refine⟨its.toList,r,⟨o,n,I.kIn a o hk,hc,hd,by simpa using hs⟩,?_⟩
   have e:=r.length
   simp only [Array.length_toList]at e
   omega
theorem Inv.tuple (I:Inv X pins σ H s) (h:SqT X.K H a xs):∃ its:List Value,Vals xs its∧IsTup s.heap a its.toArray∧xs.length≤sizeLine:=by
 rcases h with h | ⟨o,its,n,hk,hc,hs,hz,r⟩
 · obtain ⟨z,its,r,p⟩:=h.ok I.hok
   exact⟨its,r,p,z⟩
 · refine⟨its.toList,r,⟨o,I.kIn a o hk,hc,n,by simpa using hs⟩,?_⟩
   have e:=r.length
   simp only [Array.length_toList]at e
   omega
theorem Inv.list_inj (I:Inv X pins σ H s) (h:SqL X.K H a xs) (h':SqL X.K H a ys):xs=ys:=by
 obtain ⟨its,r,⟨o,n,e,_,_,d⟩,_⟩:=I.list h
 obtain ⟨its',r',⟨o',n',e',_,_,d'⟩,_⟩:=I.list h'
 rw[e]at e';cases e'
 rw[d]at d'
 injection d' with d1 _
 have:its=its':=by simpa using congrArg Array.toList d1
 subst this
 exact r.inj r'
theorem Inv.tuple_inj (I:Inv X pins σ H s) (h:SqT X.K H a xs) (h':SqT X.K H a ys):xs=ys:=by
 obtain ⟨its,r,⟨o,e,_,n,d⟩,_⟩:=I.tuple h
 obtain ⟨its',r',⟨o',e',_,n',d'⟩,_⟩:=I.tuple h'
 rw[e]at e';cases e'
 rw[d]at d'
 injection d' with d1 _
 have:its=its':=by simpa using congrArg Array.toList d1
 subst this
 exact r.inj r'
end
noncomputable abbrev Cx.wish (X:Cx) (E:Value→Shared→Prop):Cx:={ X with xe:=E }
noncomputable abbrev Cx.nox (X:Cx):Cx:=X.wish fun _ _=>False
theorem Cx.Ok.wish {X:Cx} (ok:X.Ok) (E:Value→Shared→Prop):(X.wish E).Ok :=
 ⟨ok.mod,ok.kind,ok.glob,ok.blt,ok.above,ok.inj,ok.has,ok.cab,ok.hd,ok.frames,ok.stk,ok.exf,ok.bs,ok.bsz,ok.noex,ok.exfs,ok.funs,ok.frf⟩
theorem Cx.Ok.unwish {X:Cx} {E:Value→Shared→Prop} (ok:(X.wish E).Ok):X.Ok :=
 ⟨ok.mod,ok.kind,ok.glob,ok.blt,ok.above,ok.inj,ok.has,ok.cab,ok.hd,ok.frames,ok.stk,ok.exf,ok.bs,ok.bsz,ok.noex,ok.exfs,ok.funs,ok.frf⟩
section
variable {X:Cx} {pins:List (Addr × Obj)} {σ:St} {H:Hp} {s:Shared} {E:Value→Shared→Prop}
theorem Inv.wish (I:Inv X pins σ H s) (E:Value→Shared→Prop):Inv (X.wish E) pins σ H s:=⟨I.ok.wish E,I.os,I.bare,I.base,I.loc,I.cell,I.free,I.freeC,I.pin,I.hok,I.len⟩
theorem Inv.unwish (I:Inv (X.wish E) pins σ H s):Inv X pins σ H s:=⟨I.ok.unwish,I.os,I.bare,I.base,I.loc,I.cell,I.free,I.freeC,I.pin,I.hok,I.len⟩
theorem SP.unwish {D:Ends} {f:Flow} {s':Shared} (h:SP (X.wish E) pins D f s'):SP X pins D f s':=by
 cases f with
 | next=>obtain ⟨σ',H',I,q⟩:=h;exact⟨σ',H',I.unwish,q⟩
 | brk=>obtain ⟨σ',H',I,q⟩:=h;exact⟨σ',H',I.unwish,q⟩
 | cont=>obtain ⟨σ',H',I,q⟩:=h;exact⟨σ',H',I.unwish,q⟩
 | ret u=>obtain ⟨v,σ',H',I,r,q⟩:=h;exact⟨v,σ',H',I.unwish,r,q⟩
theorem PT.nox {e:Expr} {t:TT} (h:PT X.nox e t):PT X e t:=fun pins s σ H Q I hw =>
 wpAny_mono (h pins s σ H Q (I.wish _) hw) (fun _ _ ⟨H',I',q⟩=>⟨H',I'.unwish,q⟩) fun _ _ z=>False.elim z
theorem PSs.nox {st:List Stmt} {t:TS} (h:PSs X.nox st t):PSs X st t:=fun pins s σ H D I hw =>
 wpAny_mono (h pins s σ H D (I.wish _) hw) (fun _ _ q=>q.unwish) fun _ _ z=>False.elim z
end
section
variable {X:Cx} {st:Stmt} {rest:List Stmt} {t u:TS} {e:Expr} {te:TE} {pos:Pos}
noncomputable def q2u:TS:=fun D σ H=>D.nx σ H
noncomputable def q55 (t u:TS):TS:=fun D σ H=>t { D with nx:=u D } σ H
theorem qvz:PSs X [] q2u:=fun _ _ σ H _ I h=>wpAny_execs_nil ⟨σ,H,I,h⟩
theorem qdm (h1:PS X st t) (h2:PSs X rest u):PSs X (st::rest) (q55 t u):=by
 intro pins s σ H D I h
 refine wpAny_execs_cons (thn (h1 pins s σ H { D with nx:=u D } I h) fun f s1 q=> ?_)
 cases f with
 | next =>
   obtain ⟨σ',H',I',q⟩:=q
   exact h2 pins s1 σ' H' D I' q
 | ret v=>exact q
 | brk=>exact q
 | cont=>exact q
theorem qe6 (h1:PS X st t):PSs X [st] t:=by
 intro pins s σ H D I h
 refine wpAny_execs_cons (thn (h1 pins s σ H D I h) fun f s1 q=> ?_)
 cases f with
 | next=>exact wpAny_execs_nil q
 | ret v=>exact q
 | brk=>exact q
 | cont=>exact q
theorem Inv.quiet {pins:List (Addr × Obj)} {σ:St} {H:Hp} {s:Shared} (I:Inv X pins σ H s):interactive X.env=false:=by simp [interactive,I.ok.kind]
noncomputable def q2v (te:TE):TS:=fun D σ H=>te σ H fun _ H1=>D.nx σ H1
theorem qk0 (he:PE X e te) (hs:swapsWith e none pos.line X.env=pure false:=by rfl):PS X (.Expr e pos) (q2v te):=by
 intro pins s σ H D I h
 exact wpAny_Expr_any (thn (he pins s σ H _ I h) fun v s1 ⟨x,H1,I1,r1,q1⟩=>⟨σ,H1,I1,q1⟩) I.quiet hs
noncomputable def q56 (te:TE):TS:=fun D σ H=>te σ H D.rt
theorem qsr (he:PE X e te):PS X (.Return (some e) pos) (q56 te):=by
 intro pins s σ H D I h
 exact wpAny_Return_some (thn (he pins s σ H _ I h) fun v s1 ⟨x,H1,I1,r1,q1⟩=>⟨x,σ,H1,I1,r1,q1⟩)
noncomputable def q57 (c:TT) (t u:TS):TS:=fun D σ H=>c σ H fun b H1=>if b=true then t D σ H1 else u D σ H1
theorem qyp {c:Expr} {a b:List Stmt} {tc:TT} (hc:PT X c tc) (ha:PSs X a t) (hb:PSs X b u):PS X (.If c a b pos) (q57 tc t u):=by
 intro pins s σ H D I h
 refine wpAny_If (thn (hc pins s σ H _ I h) fun d s1 ⟨H1,I1,q1⟩=> ?_)
 cases d with
 | true=>exact ha pins s1 σ H1 D I1 q1
 | false=>exact hb pins s1 σ H1 D I1 q1
noncomputable def qzi:TS:=fun _ _ _=>False
theorem qj5 {sts:List Stmt}:PSs X sts qzi:=fun _ _ _ _ _ _ h=>h.elim
end
noncomputable abbrev TG:=V→St→Hp→(St→Hp→Prop)→Prop
noncomputable abbrev TGs:=List V→St→Hp→(St→Hp→Prop)→Prop
noncomputable def PG (X:Cx) (target:Expr) (t:TG):Prop :=
 ∀ (pins:List (Addr × Obj)) (s:Shared) (σ:St) (H:Hp) (v:V) (u:Value) (Q:St→Hp→Prop),Inv X pins σ H s→RelV v u→t v σ H Q →
   wpAny (model X.prog X.w) X.A (assign target X.env u) (fun _ s'=>∃ σ' H',Inv X pins σ' H' s'∧Q σ' H') X.xe s
noncomputable def PGs (X:Cx) (ts:List Expr) (t:TGs):Prop :=
 ∀ (pins:List (Addr × Obj)) (s:Shared) (σ:St) (H:Hp) (vs:List V) (us:List Value) (Q:St→Hp→Prop),Inv X pins σ H s→Vals vs us→t vs σ H Q →
   wpAny (model X.prog X.w) X.A (assignInOrder ((assignEach ts X.env).map (·.2)) us) (fun _ s'=>∃ σ' H',Inv X pins σ' H' s'∧Q σ' H') X.xe s
noncomputable abbrev qor:=V→V→V→Hp→(Hp→Prop)→Prop
noncomputable def qjf (X:Cx) (t:qor):Prop :=
 ∀ (pins:List (Addr × Obj)) (s:Shared) (σ:St) (H:Hp) (o i v:V) (ov iv u:Value) (Q:Hp→Prop),Inv X pins σ H s→RelV o ov→RelV i iv→RelV v u→t o i v H Q →
   wpAny (model X.prog X.w) X.A (setItem ov iv u) (fun _ s'=>∃ H',Inv X pins σ H' s'∧Q H') X.xe s
noncomputable abbrev TIp:=V→V→Hp→VK→Prop
noncomputable def PIp (X:Cx) (op:Operator) (t:TIp):Prop :=
 ∀ (pins:List (Addr × Obj)) (s:Shared) (σ:St) (H:Hp) (x y:V) (v u:Value) (Q:VK),Inv X pins σ H s→RelV x v→RelV y u→t x y H Q →
   wpAny (model X.prog X.w) X.A (inplaceOp op v u) (EP X pins σ Q) X.xe s
section
variable {X:Cx} {pos:Pos}
noncomputable def qmt (i:Nat):TG:=fun v σ H Q=>Q (σ.set i (some v)) H
theorem qv0 {i:Nat} {x:Str} (hN:X.N.Nodup) (hi:X.N[i]? =some x) (hx:Loc X.env.scope x) (hf:X.fn x=true∨X.env.scope.names.lookup x=some .local:=by first | exact .inl rfl | exact .inr rfl | assumption):PG X (.Name x pos) (qmt i):=by
 intro pins s σ H v u Q I r h
 exact wpAny_assign_Name (qhx I hN hi hx r (fun s' I'=>⟨_,H,I',h⟩) hf)
noncomputable def q58:TGs:=fun vs σ H Q=>vs=[]∧Q σ H
noncomputable def q2w (t:TG) (u:TGs):TGs:=fun vs σ H Q=>∃ v r,vs=v::r∧t v σ H fun σ' H'=>u r σ' H' Q
theorem qv1:PGs X [] q58:=by
 intro pins s σ H vs us Q I r h
 obtain ⟨e,h⟩:=h
 subst e
 cases r
 exact assignInOrder_nil ⟨σ,H,I,h⟩
theorem qss {e:Expr} {es:List Expr} {t:TG} {u:TGs} (h1:PG X e t) (h2:PGs X es u)
   (hs:(assignEach (e::es) X.env).map (·.2)=assign e X.env::(assignEach es X.env).map (·.2):=by rfl):PGs X (e::es) (q2w t u):=by
 intro pins s σ H vs us Q I r h
 obtain ⟨v,vr,e1,h⟩:=h
 subst e1
 cases r with
 | cons r rr =>
   rw[hs]
   refine assignInOrder_cons (thn (h1 pins s σ H _ _ _ I r h) fun _ s1 ⟨σ1,H1,I1,q1⟩=> ?_)
   exact h2 pins s1 σ1 H1 _ _ Q I1 rr q1
noncomputable def q59 (K:PySem.W.Frag) (n:Nat) (t:TGs):TG:=fun v σ H Q=>∃ a xs,v=.ref a∧SqT K H a xs∧xs.length=n∧t xs σ H Q
theorem qzj {es:List Expr} {k:Nat} {t:TGs} {n:Nat} (hc:X.calm=true) (h:PGs X es t)
   (hn:(assignEach es X.env).length=n:=by rfl) (hst:(assignEach es X.env).findIdx? (·.1)=none:=by rfl):PG X (.Tuple es k pos) (q59 X.K n t):=by
 intro pins s σ H v u Q I r hw
 obtain ⟨a,xs,e1,hq,hl,hw⟩:=hw
 subst e1
 cases r
 obtain ⟨its,rv,ht,hz⟩:=I.tuple hq
 refine assign_Tuple_tuple (I.ok.hd hc) ht (by simp [hn,← hl,rv.length]) hst fun h' hx=> ?_
 have I1:Inv X pins σ H { s with heap:=h' }:=I.kept (t':=s.toks) fun b o e=>hx b o (Nat.ne_of_lt (Heap.lt_size e)) e
 exact h pins _ σ H xs _ Q I1 (by simpa using rv) hw
noncomputable def q6a (to ti:TE) (t:qor):TG:=fun v σ H Q=>to σ H fun o H1=>ti σ H1 fun i H2=>t o i v H2 fun H3=>Q σ H3
theorem qzk {o i:Expr} {to ti:TE} {t:qor} (ho:PE X o to) (hi:PE X i ti) (hs:qjf X t)
   (ha:∀ v,assign (.Subscript o i pos) X.env v=(do
     let ov ← holding [v] (eval o X.env)
     let iv ← holding [v,ov] (eval i X.env)
     standAt pos
     holding [v,ov,iv] (setItem ov iv v)
     release [v,ov,iv] []):=by intro _;rfl):PG X (.Subscript o i pos) (q6a to ti t):=by
 intro pins s σ H v u Q I r h
 rw[ha]
 refine wpAny_bind (wpAny_holding (thn (ho pins s σ H _ I h) fun ov s1 ⟨x,H1,I1,r1,q1⟩=> ?_))
 refine wpAny_bind (wpAny_holding (thn (hi pins s1 σ H1 _ I1 q1) fun iv s2 ⟨y,H2,I2,r2,q2⟩=> ?_))
 refine wpAny_bind (wpAny_standAt (wpAny_bind (wpAny_holding (thn (hs pins s2 σ H2 x y v ov iv u _ I2 r1 r2 r q2) fun _ s3 ⟨H3,I3,q3⟩=> ?_))))
 exact wpAny_release ⟨σ,H3,I3,q3⟩
noncomputable def qst (te:TE) (g:TG):TS:=fun D σ H=>te σ H fun x H1=>g x σ H1 D.nx
theorem qzl {tg e:Expr} {te:TE} {g:TG} (he:PE X e te) (hg:PG X tg g) (hs:swapsWithSole [tg] e pos.line X.env=pure false:=by rfl) (hw:swappedStores [tg] e X.env=pure none:=by rfl)
   (h1:(assignEach [tg] X.env).map (·.2)=[assign tg X.env]:=by rfl):PS X (.Assign [tg] e pos) (qst te g):=by
 intro pins s σ H D I h
 refine wpAny_Assign_stores (thn (he pins s σ H _ I h) fun v s1 ⟨x,H1,I1,r1,q1⟩=> ?_) hs hw
 rw[h1]
 exact thn (hg pins s1 σ H1 x v _ I1 r1 q1) fun _ s2 q=>q
theorem qos {i:Nat} {x:Str} {e:Expr} {te:TE} {pos':Pos} (hN:X.N.Nodup) (hi:X.N[i]? =some x) (hx:Loc X.env.scope x) (he:PE X e te) (hs:swapsWith e (some (.Name x pos')) pos.line X.env=pure false:=by rfl) (hf:X.fn x=true∨X.env.scope.names.lookup x=some .local:=by first | exact .inl rfl | exact .inr rfl | assumption) :
   PS X (.Assign [.Name x pos'] e pos) (qst te (qmt i)):=by
 intro pins s σ H D I h
 refine wpAny_Assign_Name (thn (he pins s σ H _ I h) fun v s1 ⟨y,H1,I1,r1,q1⟩=> ?_) hs
 exact qhx I1 hN hi hx r1 (fun s2 I2=>⟨_,H1,I2,q1⟩) hf
noncomputable def q2x (to ti te:TE) (tget:V→V→Hp→VK→Prop) (tip:TIp) (tset:qor):TS:=fun D σ H=>to σ H fun o H1=>ti σ H1 fun i H2=>tget o i H2 fun x H3=>te σ H3 fun y H4=>tip x y H4 fun z H5=>tset o i z H5 fun H6=>D.nx σ H6
noncomputable def qmu (X:Cx) (t:V→V→Hp→VK→Prop):Prop :=
 ∀ (pins:List (Addr × Obj)) (s:Shared) (σ:St) (H:Hp) (o i:V) (ov iv:Value) (Q:VK),Inv X pins σ H s→RelV o ov→RelV i iv→t o i H Q →
   wpAny (model X.prog X.w) X.A (getItem ov iv) (EP X pins σ Q) X.xe s
theorem qv2 {o i e:Expr} {to ti te:TE} {tget:V→V→Hp→VK→Prop} {tip:TIp} {tset:qor} {op:Operator} {tpos:Pos} (ho:PE X o to) (hi:PE X i ti) (hg:qmu X tget) (he:PE X e te) (hp:PIp X op tip) (hs:qjf X tset)
   (ha:∀ ov iv new,augStore i ov iv new=(do holding [new,ov,iv] (setItem ov iv new);release [new,ov,iv] [];pure .next):=by intros;rfl):PS X (.AugAssign (.Subscript o i tpos) op e pos) (q2x to ti te tget tip tset):=by
 intro pins s σ H D I h
 refine wpAny_AugAssign_SubscriptAny (thn (ho pins s σ H _ I h) fun ov s1 ⟨x1,H1,I1,r1,q1⟩=> ?_) ha
 refine thn (hi pins s1 σ H1 _ I1 q1) fun iv s2 ⟨x2,H2,I2,r2,q2⟩=> ?_
 refine thn (hg pins s2 σ H2 x1 x2 ov iv _ I2 r1 r2 q2) fun old s3 ⟨x3,H3,I3,r3,q3⟩=> ?_
 refine thn (he pins s3 σ H3 _ I3 q3) fun v s4 ⟨x4,H4,I4,r4,q4⟩=> ?_
 refine thn (hp pins s4 σ H4 x3 x4 old v _ I4 r3 r4 q4) fun new s5 ⟨x5,H5,I5,r5,q5⟩=> ?_
 exact thn (hs pins s5 σ H5 x1 x2 x5 ov iv new _ I5 r1 r2 r5 q5) fun _ s6 ⟨H6,I6,q6⟩=>⟨σ,H6,I6,q6⟩
noncomputable def ipI (f:Int→Int→Int):TIp:=fun x y H Q=>∃ i j,x=.int i∧y=.int j∧Q (.int (f i j)) H
theorem qzm:PIp X .Add (ipI fun i j=>i+j):=by
 intro pins s σ H x y v u Q I r1 r2 h
 obtain ⟨i,j,e1,e2,q⟩:=h
 subst e1;subst e2
 obtain ⟨t,rfl⟩:=r1
 obtain ⟨t',rfl⟩:=r2
 exact iadd_int ⟨.int _,H,I.tok _,⟨_,rfl⟩,q⟩
theorem qzn:PIp X .Sub (ipI fun i j=>i - j):=by
 intro pins s σ H x y v u Q I r1 r2 h
 obtain ⟨i,j,e1,e2,q⟩:=h
 subst e1;subst e2
 obtain ⟨t,rfl⟩:=r1
 obtain ⟨t',rfl⟩:=r2
 exact isub_int ⟨.int _,H,I.tok _,⟨_,rfl⟩,q⟩
end
set_option genInjectivity false in
set_option genInjectivity false in
structure It where
 go:Nat→Hp→Prop
 yld:Nat→Hp→V→Hp→Prop
 stop:Nat→Hp→Prop
noncomputable def qg6 (X:Cx) (pins:List (Addr × Obj)) (H:Hp) (b:Addr):Prop :=
 H b=none∧b ≠ X.env.locals∧b ∉ X.fs∧(b ∈ X.ex∨X.s₀.heap.objs.size≤b)∧(∀ x c,X.env.cells.lookup x=some c→c ≠ b)∧∀ p ∈ X.pn++pins,p.1 ≠ b
theorem Inv.fpOk {X:Cx} {pins:List (Addr × Obj)} {σ:St} {H H':Hp} {s:Shared} {b:Addr} (I:Inv X pins σ H s) (hb:s.heap.objs.size≤b) (hn:H' b=none):qg6 X pins H' b:=by
 refine⟨hn,Nat.ne_of_gt (Nat.lt_of_lt_of_le I.lt hb),I.nofs hb,.inr (Nat.le_trans I.sz hb),fun x c e z=> ?_,fun p hp z=> ?_⟩
 · obtain ⟨v,q⟩:=I.cell x c e
   exact absurd (Nat.lt_of_lt_of_le q.lt (by rw[z];exact hb)) (Nat.lt_irrefl _)
 · exact absurd (Nat.lt_of_lt_of_le (Heap.lt_size (I.pin p hp).1) (by rw[z];exact hb)) (Nat.lt_irrefl _)
structure Turn (P:Program) (w:World) (K:PySem.W.Frag) (tg:Expr) (J:It) (fp:List Addr) (it:Addr) (tn:Nat→Heap→Prop):Prop where
 mem:it ∈ fp
 obj:∀ i h,tn i h→∀ b ∈ fp,∃ o,h.get? b=some o∧∀ v,o.data ≠ .cell v
 keep:∀ i h h',tn i h→(∀ b ∈ fp,∀ o,h.get? b=some o→h'.get? b=some o)→tn i h'
 item:∀ (X:Cx),X.prog=P→X.w=w→X.K=K→X.calm=true→∀ (i:Nat) (pins:List (Addr × Obj)) (s:Shared) (σ:St) (H:Hp) (E:Value→Shared→Prop),Inv X pins σ H s→(∀ b ∈ fp,qg6 X pins H b)→tn i s.heap→J.go i H →
   wpAny (model P w) X.A (pyNext (.ref it)) (fun r s1=>∃ u,r=some u ∧
     wpAny (model P w) X.A (letOwnedTupleGo tg (.ref it) u) (fun _ s2=>∃ x H',Inv X pins σ H' s2∧RelV x u∧J.yld i H x H'∧tn (i+1) s2.heap∧∀ b ∈ fp,H' b=none) E s1) E s
 done:∀ (X:Cx),X.prog=P→X.w=w→X.K=K→X.calm=true→∀ (i:Nat) (pins:List (Addr × Obj)) (s:Shared) (σ:St) (H:Hp) (E:Value→Shared→Prop),Inv X pins σ H s→(∀ b ∈ fp,qg6 X pins H b)→tn i s.heap→J.stop i H →
   wpAny (model P w) X.A (pyNext (.ref it)) (fun r s1=>r=none∧Inv X pins σ H s1) E s
 self:∀ (A:Around) (i:Nat) (s:Shared) (Q:Value→Shared→Prop) (E:Value→Shared→Prop),tn i s.heap→Q (.ref it) s→wpAny (model P w) A (pyIter (.ref it)) Q E s
noncomputable abbrev TI:=St→Hp→(It→Hp→Prop)→Prop
noncomputable def PIE (X:Cx) (pins:List (Addr × Obj)) (σ:St) (tg:Expr) (R:It→Hp→Prop) (itv:Value) (s2:Shared):Prop :=
 ∃ (it:Addr) (fp:List Addr) (tn:Nat→Heap→Prop) (J:It) (H':Hp),itv=.ref it∧Inv X pins σ H' s2∧Turn X.prog X.w X.K tg J fp it tn∧tn 0 s2.heap∧(∀ b ∈ fp,qg6 X pins H' b)∧R J H'
noncomputable def PI (X:Cx) (tg iter:Expr) (wi:TI):Prop :=
 ∀ (pins:List (Addr × Obj)) (s:Shared) (σ:St) (H:Hp) (R:It→Hp→Prop),Inv X pins σ H s→wi σ H R →
   wpAny (model X.prog X.w) X.A (eval iter X.env) (fun v s1=>wpAny (model X.prog X.w) X.A (pyIter v) (PIE X pins σ tg R) X.xe s1) X.xe s
theorem qp6 {M:Model} {A:Around} {E:Value→Shared→Prop} {s:Shared} {tg:Expr} {it:Addr} {u:Value} {o:Obj} {n:String} {vs:Array Value} {Q:Unit→Shared→Prop} (ho:s.heap.get? it=some o) (hc:o.cls=.type n) (hd:o.data=.fields vs)
   (hn:["enumerate","zip","dict_itemiterator","dict_reverseitemiterator","odict_iterator","itertools.zip_longest","itertools.pairwise"].contains n=false) (hQ:Q () s):wpAny M A (letOwnedTupleGo tg (.ref it) u) Q E s:=by
 unfold letOwnedTupleGo
 cases tg <;> first
   | exact wpAny_pure hQ
   | (cases u <;> first
       | exact wpAny_pure hQ
       | (refine wpAny_bind (wpAny_load ho ?_)
          rw[hc,hd]
          show wpAny M A (if (["enumerate","zip","dict_itemiterator","dict_reverseitemiterator","odict_iterator","itertools.zip_longest","itertools.pairwise"].contains n && vs[0]? ==some (rawInt _))=true then _ else _) Q E s
          rw[if_neg (by intro h;rw[hn,Bool.false_and]at h;cases h)]
          exact wpAny_pure hQ))
noncomputable def Itl (K:PySem.W.Frag) (a:Addr):It :=
 ⟨fun i H=>∃ xs x,SqL K H a xs∧xs[i]? =some x,fun i H x H'=>H'=H∧∀ xs,SqL K H a xs→xs[i]? =some x,fun i H=>∃ xs,SqL K H a xs∧xs.length≤i⟩
noncomputable def Itt (K:PySem.W.Frag) (a:Addr):It :=
 ⟨fun i H=>∃ xs x,SqT K H a xs∧xs[i]? =some x,fun i H x H'=>H'=H∧∀ xs,SqT K H a xs→xs[i]? =some x,fun i H=>∃ xs,SqT K H a xs∧xs.length≤i⟩
noncomputable def Itr (lo:Int) (n:Nat):It:=⟨fun i _=>i < n,fun i H x H'=>H'=H∧x=.int (lo+i),fun i _=>n≤i⟩
theorem qq4 {P:Program} {w:World} {K:PySem.W.Frag} {tg:Expr} (a it:Addr):Turn P w K tg (Itl K a) [it] it (fun i h=>h.IsListIter it a i) where
 mem:=by simp
 obj:=fun i h st b hb=>by
   have e:b=it:=by simpa using hb
   subst e
   obtain ⟨o,e,c,d⟩:=st
   exact⟨o,e,fun v z=>by rw[d]at z;cases z⟩
 keep:=fun i h h' st k=>st.at fun o e=>k it (by simp) o e
 item:=by
   intro X hP hw hK hc i pins s σ H E I hf st hg
   subst hP hw hK
   obtain ⟨xs,x,hq,hx⟩:=hg
   obtain ⟨its,rv,p,hz⟩:=I.list hq
   obtain ⟨u,hu,ru⟩:=rv.get hx
   obtain ⟨f0,f1,f2,f3,f4,f5⟩:=hf it (by simp)
   refine wpAny_pyNext_list_item st p.isList (x:=u) (by simpa using hu) fun h' st' sb=> ?_
   have I1:Inv X pins σ H { s with heap:=h' }:=I.turned (t':=s.toks) (fun b o hb e=>(sb.2 b hb).trans e) f0 f1 f3 f4 f5
   obtain ⟨o,e,c,d⟩:=id st'
   exact⟨u,rfl,qp6 (s:={ s with heap:=h' }) e c d (by decide) ⟨x,H,I1,ru,⟨rfl,fun ys hy=>by rw[I.list_inj hy hq];exact hx⟩,st',fun b hb=>(hf b hb).1⟩⟩
 done:=by
   intro X hP hw hK hc i pins s σ H E I hf st hg
   subst hP hw hK
   obtain ⟨xs,hq,hx⟩:=hg
   obtain ⟨its,rv,p,hz⟩:=I.list hq
   obtain ⟨f0,f1,f2,f3,f4,f5⟩:=hf it (by simp)
   have hl:=rv.length
   exact wpAny_pyNext_list_end (I.ok.hd hc) st p.isList (by simp;omega) fun h' eb=>⟨rfl,I.turned (t':=s.toks) (fun b o hb e=>eb b o hb e) f0 f1 f3 f4 f5⟩
 self:=fun _ _ _ _ _ st h=>wpAny_pyIter_listiter st h
theorem qot {P:Program} {w:World} {K:PySem.W.Frag} {tg:Expr} (a it:Addr):Turn P w K tg (Itt K a) [it] it (fun i h=>h.IsTupleIter it a i) where
 mem:=by simp
 obj:=fun i h st b hb=>by
   have e:b=it:=by simpa using hb
   subst e
   obtain ⟨o,e,c,d⟩:=st
   exact⟨o,e,fun v z=>by rw[d]at z;cases z⟩
 keep:=fun i h h' st k=>st.at fun o e=>k it (by simp) o e
 item:=by
   intro X hP hw hK hc i pins s σ H E I hf st hg
   subst hP hw hK
   obtain ⟨xs,x,hq,hx⟩:=hg
   obtain ⟨its,rv,p,hz⟩:=I.tuple hq
   obtain ⟨u,hu,ru⟩:=rv.get hx
   obtain ⟨f0,f1,f2,f3,f4,f5⟩:=hf it (by simp)
   refine wpAny_pyNext_tuple_item st (show s.heap.IsTuple a its.toArray from p) (x:=u) (by simpa using hu) fun h' st' sb=> ?_
   have I1:Inv X pins σ H { s with heap:=h' }:=I.turned (t':=s.toks) (fun b o hb e=>(sb.2 b hb).trans e) f0 f1 f3 f4 f5
   obtain ⟨o,e,c,d⟩:=id st'
   exact⟨u,rfl,qp6 (s:={ s with heap:=h' }) e c d (by decide) ⟨x,H,I1,ru,⟨rfl,fun ys hy=>by rw[I.tuple_inj hy hq];exact hx⟩,st',fun b hb=>(hf b hb).1⟩⟩
 done:=by
   intro X hP hw hK hc i pins s σ H E I hf st hg
   subst hP hw hK
   obtain ⟨xs,hq,hx⟩:=hg
   obtain ⟨its,rv,p,hz⟩:=I.tuple hq
   obtain ⟨f0,f1,f2,f3,f4,f5⟩:=hf it (by simp)
   have hl:=rv.length
   exact wpAny_pyNext_tuple_end (I.ok.hd hc) st (show s.heap.IsTuple a its.toArray from p) (by simp;omega) fun h' eb=>⟨rfl,I.turned (t':=s.toks) (fun b o hb e=>eb b o hb e) f0 f1 f3 f4 f5⟩
 self:=fun _ _ _ _ _ st h=>wpAny_pyIter_tupleiter st h
theorem qou {P:Program} {w:World} {K:PySem.W.Frag} {tg:Expr} (it:Addr) (lo:Int) (n:Nat):Turn P w K tg (Itr lo n) [it] it (fun i h=>IsRangeIter h it (lo+(i:Nat) * 1) ((n:Int) - (i:Nat)) 1) where
 mem:=by simp
 obj :=fun i h st b hb=>by
   have e:b=it:=by simpa using hb
   subst e
   exact⟨_,st,fun v z=>by
     have z':Data.fields _=Data.cell v:=z
     cases z'⟩
 keep:=fun i h h' st k=>k it (by simp) _ st
 item:=by
   intro X hP hw hK hc i pins s σ H E I hf st hg
   subst hP hw hK
   obtain ⟨f0,f1,f2,f3,f4,f5⟩:=hf it (by simp)
   have W:=Walks.range (prog:=X.prog) (w:=X.w) (I.ok.hd hc) it lo 1 n
   refine W.item i s _ _ hg st fun v h' tk hv st' kk=> ?_
   obtain ⟨t,rfl⟩:=hv
   have I1:Inv X pins σ H { s with heap:=h',toks:=tk }:=I.turned (fun b o hb e=>kk b o (by simpa using hb) e) f0 f1 f3 f4 f5
   refine⟨_,rfl,qp6 (s:={ s with heap:=h',toks:=tk }) (n:="range_iterator") st' rfl rfl (by decide) ⟨.int (lo+i),H,I1,⟨t,?_⟩,⟨rfl,rfl⟩,st',fun b hb=>(hf b hb).1⟩⟩
   rw[Int.mul_one]
 done:=by
   intro X hP hw hK hc i pins s σ H E I hf st hg
   subst hP hw hK
   obtain ⟨f0,f1,f2,f3,f4,f5⟩:=hf it (by simp)
   exact wpAny_pyNext_range_end (I.ok.hd hc) st (by have:n≤i:=hg;omega) fun h' eb=>⟨rfl,I.turned (t':=s.toks) (fun b o hb e=>eb b o hb e) f0 f1 f3 f4 f5⟩
 self:=fun _ _ _ _ _ st h=>wpAny_pyIter_rangeiter st h
section
variable {X:Cx} {tg:Expr}
noncomputable def q2y (K:PySem.W.Frag) (tl:TE):TI:=fun σ H R=>tl σ H fun x H1=>∃ a,x=.ref a∧(∃ xs,SqL K H1 a xs)∧R (Itl K a) H1
noncomputable def q6b (K:PySem.W.Frag) (tl:TE):TI:=fun σ H R=>tl σ H fun x H1=>∃ a,x=.ref a∧(∃ xs,SqT K H1 a xs)∧R (Itt K a) H1
theorem qv3 {l:Expr} {tl:TE} (hl:PE X l tl):PI X tg l (q2y X.K tl):=by
 intro pins s σ H R I h
 refine thn (hl pins s σ H _ I h) fun v s1 ⟨x,H1,I1,r1,q1⟩=> ?_
 obtain ⟨a,e,⟨xs,hq⟩,q⟩:=q1
 subst e
 cases r1
 obtain ⟨its,rv,p,hz⟩:=I1.list hq
 refine wpAny_pyIter_list p.isList ?_
 refine⟨s1.heap.objs.size,[s1.heap.objs.size],_,_,H1,rfl,I1.kept (t':=s1.toks) fun b o e=>Heap.get?_push_of_some _ e,qq4 a _,⟨_,Heap.get?_push_size _ rfl,rfl,rfl⟩,fun b hb=> ?_,q⟩
 have e:b=s1.heap.objs.size:=by simpa using hb
 subst e
 exact I1.fpOk (Nat.le_refl _) (I1.hok.fresh (Nat.le_refl _))
theorem qzo {l:Expr} {tl:TE} (hl:PE X l tl):PI X tg l (q6b X.K tl):=by
 intro pins s σ H R I h
 refine thn (hl pins s σ H _ I h) fun v s1 ⟨x,H1,I1,r1,q1⟩=> ?_
 obtain ⟨a,e,⟨xs,hq⟩,q⟩:=q1
 subst e
 cases r1
 obtain ⟨its,rv,p,hz⟩:=I1.tuple hq
 refine wpAny_pyIter_tuple (show s1.heap.IsTuple a its.toArray from p) ?_
 refine⟨s1.heap.objs.size,[s1.heap.objs.size],_,_,H1,rfl,I1.kept (t':=s1.toks) fun b o e=>Heap.get?_push_of_some _ e,qot a _,⟨_,Heap.get?_push_size _ rfl,rfl,rfl⟩,fun b hb=> ?_,q⟩
 have e:b=s1.heap.objs.size:=by simpa using hb
 subst e
 exact I1.fpOk (Nat.le_refl _) (I1.hok.fresh (Nat.le_refl _))
theorem qsu {pins:List (Addr × Obj)} {σ:St} {H:Hp} {s:Shared} {R:It→Hp→Prop} {E:Value→Shared→Prop} {lo hi:Int} {t u v:Tok} {tk:Nat} (I:Inv X pins σ H s) (h1: -(2 ^ 62)≤lo) (h2:lo < 2 ^ 62) (h3: -(2 ^ 62)≤hi) (h4:hi < 2 ^ 62)
   (q:R (Itr lo (hi - lo).toNat) H):wpAny (model X.prog X.w) X.A (pyIter (.ref s.heap.objs.size)) (PIE X pins σ tg R) E { s with heap:=s.heap.push { cls:=.type "range",data:=.fields #[.int lo t,.int hi u,.int 1 v] },toks:=tk }:=by
 refine wpAny_pyIter_range (IsRange.new ..) (small_one h1 h2 h3 h4) ?_
 have I1:Inv X pins σ H { s with heap:=s.heap.push { cls:=.type "range",data:=.fields #[.int lo t,.int hi u,.int 1 v] },toks:=tk }:=I.kept fun b o e=>Heap.get?_push_of_some _ e
 refine⟨(s.heap.push { cls:=.type "range",data:=.fields #[.int lo t,.int hi u,.int 1 v] }).objs.size,[(s.heap.push { cls:=.type "range",data:=.fields #[.int lo t,.int hi u,.int 1 v] }).objs.size],_,_,H,rfl,
   I1.kept (t':=tk) fun b o e=>Heap.get?_push_of_some _ e,qou _ lo (hi - lo).toNat,?_,fun b hb=> ?_,q⟩
 · have e1:lo+((0:Nat):Int) * 1=lo:=by simp
   have e2:(((hi - lo).toNat:Nat):Int) - ((0:Nat):Int)=Builtin.Range.rangeSize lo hi 1:=by rw[rangeSize_one];split <;> omega
   show IsRangeIter _ _ (lo+((0:Nat):Int) * 1) ((((hi - lo).toNat:Nat):Int) - ((0:Nat):Int)) 1
   rw[e1,e2]
   exact Heap.get?_push_size _ rfl
 · have e:b=(s.heap.push { cls:=.type "range",data:=.fields #[.int lo t,.int hi u,.int 1 v] }).objs.size:=by simpa using hb
   subst e
   exact I1.fpOk (Nat.le_refl _) (I1.hok.fresh (Nat.le_refl _))
noncomputable def q2z (ta:TA):TI:=fun σ H R=>ta σ H fun vs H1=>∃ j:Int,vs=[.int j]∧ -(2 ^ 62)≤j∧j < 2 ^ 62∧R (Itr 0 j.toNat) H1
theorem qq5 {a:Expr} {ta:TA} {p pos:Pos} (hg:Gl X "range") (hm:X.mg "range"=none) (ha:PA X [a] ta) (hs:starEach [a] X.env=[(false,eval a X.env)]:=by rfl):PI X tg (.Call (.Name "range" p) [a] [] pos) (q2z ta):=by
 intro pins s σ H R I h
 refine Call_ (qfy I hg hm boot_range (PyProof.Rows.callWith_type1 (thn (ha pos pins s σ H _ I h) fun us s1 ⟨vs,H1,I1,r1,q1⟩=> ?_) hs rfl))
 obtain ⟨j,e,q1,q2,q⟩:=q1
 subst e
 cases r1 with
 | cons r rr =>
   cases rr
   obtain ⟨t,rfl⟩:=r
   exact call_range_1 (qsu I1 (by omega) (by omega) q1 q2 (by simpa using q))
noncomputable def q6c (wi:TI) (g:TG) (tb:TS):TS:=fun D σ H=>wi σ H fun J H1=>∃ W:Nat→Nat→St→Hp→Prop,(∃ m,W 0 m σ H1)∧∀ i m σ H,W i m σ H →
 (J.stop i H∧D.nx σ H)∨(J.go i H∧∃ N:St→Hp→Prop,(∀ σ' H',N σ' H'→∃ m',m' < m∧W (i+1) m' σ' H')∧∀ x H',J.yld i H x H'→g x σ H' fun σ2 H2=>tb { D with nx:=N,ct:=N,bk:=D.nx } σ2 H2)
noncomputable def qh1 (fp:List Addr) (h:Heap):List (Addr × Obj):=fp.filterMap fun b=>(h.get? b).map fun o=>(b,o)
theorem qc5 {fp:List Addr} {h:Heap} {b:Addr} {o:Obj} (hb:b ∈ fp) (e:h.get? b=some o):(b,o) ∈ qh1 fp h:=List.mem_filterMap.mpr ⟨b,hb,by rw[e];rfl⟩
theorem qq6 {fp:List Addr} {h:Heap} {p:Addr × Obj} (hp:p ∈ qh1 fp h):p.1 ∈ fp∧h.get? p.1=some p.2:=by
 obtain ⟨b,hb,e⟩:=List.mem_filterMap.mp hp
 cases q:h.get? b with
 | none=>rw[q]at e;cases e
 | some o =>
   rw[q]at e
   have e':(b,o)=p:=Option.some.inj e
   subst e'
   exact⟨hb,q⟩
theorem Inv.pinned {pins:List (Addr × Obj)} {σ:St} {H:Hp} {s:Shared} {fp:List Addr} (I:Inv X pins σ H s) (hf:∀ b ∈ fp,qg6 X pins H b) (ho:∀ b ∈ fp,∃ o,s.heap.get? b=some o∧∀ v,o.data ≠ .cell v):Inv X (pins++qh1 fp s.heap) σ H s :=
 I.pins_of fun p hp=>(List.mem_append.mp hp).elim (fun z=>I.pin p (List.mem_append_right _ z)) fun z=>by
   obtain ⟨hb,e⟩:=qq6 z
   obtain ⟨f0,f1,f2,_⟩:=hf p.1 hb
   obtain ⟨o,e',d⟩:=ho p.1 hb
   rw[e]at e';cases e'
   exact⟨e,f0,f1,f2,d⟩
theorem Inv.unpinned {pins pl:List (Addr × Obj)} {σ:St} {H:Hp} {s:Shared} (I:Inv X (pins++pl) σ H s):Inv X pins σ H s:=I.pins_of fun p hp=>I.pin p (List.mem_append_right _ (List.mem_append_left _ hp))
theorem qzp {iter:Expr} {body:List Stmt} {wi:TI} {g:TG} {tb:TS} {pos:Pos} (hp:PassesOwn (model X.prog X.w) X.A X.env X.xe) (hc:X.calm=true) (hi:PI X tg iter wi) (hg:PG X tg g) (hb:PSs X body tb)
   (hs:∀ x,foldedSetIterable iter X.env x=pure x:=by intro _;rfl):PS X (.For tg iter body [] pos) (q6c wi g tb):=by
 intro pins s σ H D I h
 refine wpAny_For (thn (hi pins s σ H _ I h) fun v s1 h1=>thn h1 fun itv s2 h2=> ?_) hs
 obtain ⟨it,fp,tn,J,H2,e,I2,T,st2,f2,W,⟨m0,w0⟩,turn⟩:=h2
 subst e
 have stat:∀ {H':Hp},(∀ b ∈ fp,H' b=none)→∀ b ∈ fp,qg6 X pins H' b:=fun hn b hb=>⟨hn b hb,(f2 b hb).2⟩
 refine codeAny_forLoop_any (fun n s'=>∃ i σ' H',Inv X pins σ' H' s'∧tn i s'.heap∧(∀ b ∈ fp,H' b=none)∧W i n σ' H') ?_ m0 ⟨0,σ,H2,I2,st2,fun b hb=>(f2 b hb).1,w0⟩
 rintro n s3 ⟨i,σ3,H3,I3,st3,fr3,w3⟩
 rcases turn i n σ3 H3 w3 with ⟨stop,qn⟩ | ⟨go,N,hN,step⟩
 · refine wpAny_passesOwn hp (thn (T.done X rfl rfl rfl hc i pins s3 σ3 H3 X.xe I3 (stat fr3) st3 stop) fun r s4 ⟨hr,I4⟩=> ?_)
   subst hr
   exact wpAny_execs_nil ⟨σ3,H3,I4,qn⟩
 · refine wpAny_passesOwn hp (thn (T.item X rfl rfl rfl hc i pins s3 σ3 H3 X.xe I3 (stat fr3) st3 go) fun r s4 ⟨u,hr,h4⟩=> ?_)
   subst hr
   refine wpAny_passesOwn hp (thn h4 fun _ s5 ⟨x,H5,I5,r5,y5,st5,fr5⟩=> ?_)
   have I5':=I5.pinned (stat fr5) (T.obj _ _ st5)
   refine wpAny_passesOwn hp (thn (hg _ s5 σ3 H5 x u _ I5' r5 (step x H5 y5)) fun _ s6 ⟨σ6,H6,I6,q6⟩=> ?_)
   refine wpAny_passesOwn hp (thn (hb _ s6 σ6 H6 _ I6 q6) fun f s7 q7=> ?_)
   have again:∀ {σ7:St} {H7:Hp},Inv X (pins++qh1 fp s5.heap) σ7 H7 s7→N σ7 H7→∃ m,m < n∧∃ i σ' H',Inv X pins σ' H' s7∧tn i s7.heap∧(∀ b ∈ fp,H' b=none)∧W i m σ' H':=fun {σ7 H7} I7 n7=>by
     obtain ⟨m',hm,w7⟩:=hN σ7 H7 n7
     refine⟨m',hm,i+1,σ7,H7,I7.unpinned,T.keep _ _ _ st5 fun b hb o e=>(I7.pin (b,o) (List.mem_append_right _ (List.mem_append_right _ (qc5 hb e)))).1,fun b hb=> ?_,w7⟩
     obtain ⟨o,e,d⟩:=T.obj _ _ st5 b hb
     exact(I7.pin (b,o) (List.mem_append_right _ (List.mem_append_right _ (qc5 hb e)))).2.1
   cases f with
   | next=>obtain ⟨σ7,H7,I7,n7⟩:=q7;exact again I7 n7
   | cont=>obtain ⟨σ7,H7,I7,n7⟩:=q7;exact again I7 n7
   | brk=>obtain ⟨σ7,H7,I7,q7⟩:=q7;exact⟨σ7,H7,I7.unpinned,q7⟩
   | ret v=>obtain ⟨x7,σ7,H7,I7,r7,q7⟩:=q7;exact⟨x7,σ7,H7,I7.unpinned,r7,q7⟩
end
noncomputable abbrev R2:=V→V→Hp→VK→Prop
noncomputable def OpR (X:Cx) (f:Value→Value→Sem Value) (r:R2):Prop :=
 ∀ (pins:List (Addr × Obj)) (s:Shared) (σ:St) (H:Hp) (x y:V) (v u:Value) (Q:VK),Inv X pins σ H s→RelV x v→RelV y u→r x y H Q →
   wpAny (model X.prog X.w) X.A (f v u) (EP X pins σ Q) X.xe s
noncomputable def qbj (X:Cx) (f:Value) (r:List V→Hp→VK→Prop):Prop :=
 ∀ (pins:List (Addr × Obj)) (s:Shared) (σ:St) (H:Hp) (xs:List V) (us:List Value) (Q:VK),Inv X pins σ H s→Vals xs us→r xs H Q →
   wpAny (model X.prog X.w) X.A (call f us) (EP X pins σ Q) X.xe s
noncomputable def q20 (X:Cx) (r:V→Hp→(Bool→Hp→Prop)→Prop):Prop :=
 ∀ (pins:List (Addr × Obj)) (s:Shared) (σ:St) (H:Hp) (x:V) (v:Value) (Q:Bool→Hp→Prop),Inv X pins σ H s→RelV x v→r x H Q →
   wpAny (model X.prog X.w) X.A (truthy v) (TP X pins σ Q) X.xe s
noncomputable def tOp (r:R2) (ta tb:TE):TE:=fun σ H Q=>ta σ H fun x H1=>tb σ H1 fun y H2=>r x y H2 Q
noncomputable def rI (C:Int→Int→Prop) (g:Int→Int→V):R2:=fun x y H Q=>∃ i j,x=.int i∧y=.int j∧C i j∧Q (g i j) H
noncomputable def rI0 (g:Int→Int→V):R2:=fun x y H Q=>∃ i j,x=.int i∧y=.int j∧Q (g i j) H
section
variable {X:Cx} {a b c:Expr} {ta tb tc:TE} {pos:Pos}
theorem qzq (ha:PE X a ta) (hb:PE X b tb) {pins:List (Addr × Obj)} {s:Shared} {σ:St} {H:Hp} {R:V→V→Hp→Prop} (I:Inv X pins σ H s)
   (h:ta σ H fun x H1=>tb σ H1 fun y H2=>R x y H2) {Q:Value→Shared→Prop} {f:Value→Value→Sem Value}
   (hf:∀ v u s2 x y H2,Inv X pins σ H2 s2→RelV x v→RelV y u→R x y H2→wpAny (model X.prog X.w) X.A (f v u) Q X.xe s2) :
   wpAny (model X.prog X.w) X.A (eval a X.env) (fun v s₁=>wpAny (model X.prog X.w) X.A (eval b X.env) (fun u s₂=>wpAny (model X.prog X.w) X.A (f v u) Q X.xe s₂) X.xe s₁) X.xe s:=by
 refine thn (ha pins s σ H _ I h) fun v s1 ⟨x,H1,I1,r1,q1⟩=> ?_
 refine thn (hb pins s1 σ H1 _ I1 q1) fun u s2 ⟨y,H2,I2,r2,q2⟩=> ?_
 exact hf v u s2 x y H2 I2 r1 r2 q2
theorem q21 {op:Operator} {r:R2} (ho:OpR X (binaryOp op) r) (ha:PE X a ta) (hb:PE X b tb):PE X (.BinOp a op b pos) (tOp r ta tb):=by
 intro pins s σ H Q I h
 exact wpAny_BinOp (qzq ha hb I h fun v u s2 x y H2 I2 rx ry q=>ho pins s2 σ H2 x y v u Q I2 rx ry q)
theorem opI {f:Value→Value→Sem Value} {C:Int→Int→Prop} {g:Int→Int→Int}
   (rule:∀ (i j:Int) (t u:Tok) (s:Shared) (Q:Value→Shared→Prop) (E:Value→Shared→Prop),C i j→Q (.int (g i j) s.toks) { s with toks:=s.toks+1 }→wpAny (model X.prog X.w) X.A (f (.int i t) (.int j u)) Q E s) :
   OpR X f (rI C fun i j=>.int (g i j)):=by
 intro pins s σ H x y v u Q I rx ry h
 obtain ⟨i,j,rfl,rfl,hc,q⟩:=h
 obtain ⟨t,rfl⟩:=rx
 obtain ⟨t',rfl⟩:=ry
 exact rule i j t t' s _ _ hc ⟨.int (g i j),H,I.tok _,⟨_,rfl⟩,q⟩
theorem q22 {f:Value→Value→Sem Value} {g:Int→Int→Int}
   (rule:∀ (i j:Int) (t u:Tok) (s:Shared) (Q:Value→Shared→Prop) (E:Value→Shared→Prop),Q (.int (g i j) s.toks) { s with toks:=s.toks+1 }→wpAny (model X.prog X.w) X.A (f (.int i t) (.int j u)) Q E s) :
   OpR X f (rI0 fun i j=>.int (g i j)):=by
 intro pins s σ H x y v u Q I rx ry h
 obtain ⟨i,j,rfl,rfl,q⟩:=h
 obtain ⟨t,rfl⟩:=rx
 obtain ⟨t',rfl⟩:=ry
 exact rule i j t t' s _ _ ⟨.int (g i j),H,I.tok _,⟨_,rfl⟩,q⟩
theorem qv4 {f:Value→Value→Sem Value} {g:Int→Int→Bool}
   (rule:∀ (i j:Int) (t u:Tok) (s:Shared) (Q:Value→Shared→Prop) (E:Value→Shared→Prop),Q (.bool (g i j)) s→wpAny (model X.prog X.w) X.A (f (.int i t) (.int j u)) Q E s) :
   OpR X f (rI0 fun i j=>.bl (g i j)):=by
 intro pins s σ H x y v u Q I rx ry h
 obtain ⟨i,j,rfl,rfl,q⟩:=h
 obtain ⟨t,rfl⟩:=rx
 obtain ⟨t',rfl⟩:=ry
 exact rule i j t t' s _ _ ⟨.bl (g i j),H,I,rfl,q⟩
noncomputable def qk1 (i j:Int):Prop:=0≤j∧j≤1000000∧i.natAbs < 2 ^ 64
noncomputable def qq7 (i j:Int):Prop:=(-(2 ^ 64) < i∧i < 2 ^ 64)∨(-(2 ^ 64) < j∧j < 2 ^ 64)
theorem qq7.ok {i j:Int} (h:qq7 i j):IntMulOk i j:=by
 rcases h with ⟨h1,h2⟩ | ⟨h1,h2⟩
 · exact .of_left (intBits_le_64 h1 h2)
 · exact .of_right (intBits_le_64 h1 h2)
theorem qzr:OpR X (binaryOp .Add) (rI0 fun i j=>.int (i+j)):=q22 fun _ _ _ _ _ _ _ q=>add_int q
theorem qzs:OpR X (binaryOp .Sub) (rI0 fun i j=>.int (i - j)):=q22 fun _ _ _ _ _ _ _ q=>sub_int q
theorem qzt:OpR X (binaryOp .Mult) (rI qq7 fun i j=>.int (i * j)):=opI fun _ _ _ _ _ _ _ hc q=>mul_int q hc.ok
theorem qzu:OpR X (binaryOp .Mod) (rI (fun _ j=>0 < j) fun i j=>.int (i % j)):=opI fun i j _ _ _ _ _ hc q=>by
 have h1:(0:Int) < j:=hc
 exact mod_int' (by omega) (by rw[Int.fmod_eq_emod_of_nonneg i (by omega)];exact q)
theorem qzv:OpR X (binaryOp .Pow) (rI qk1 fun i j=>.int (i ^ j.toNat)):=opI fun _ _ _ _ _ _ _ hc q=>pow_int_small hc.1 hc.2.1 hc.2.2 q
end
noncomputable def qk2:V→V→Bool
 | .non,.non=>true | .non,.int _=>true | .int _,.non=>true | .non,.bl _=>true | .bl _,.non=>true | .non,.str _=>true | .str _,.non=>true
 | .int _,.int _=>true | .bl _,.bl _=>true | .str _,.str _=>true | .byt _,.byt _=>true
 | .int _,.str _=>true | .str _,.int _=>true | .bl _,.str _=>true | .str _,.bl _=>true
 | _,_=>false
noncomputable def rEq:R2:=fun x y H Q=>qk2 x y=true∧Q (.bl (decide (x=y))) H
noncomputable def rNe:R2:=fun x y H Q=>qk2 x y=true∧Q (.bl (!decide (x=y))) H
theorem qk3 {i j:Int}:decide (V.int i=V.int j)=(i==j):=by
 rw[Bool.eq_iff_iff]
 simp
theorem qsv {i j:Bool}:decide (V.bl i=V.bl j)=(i==j):=by
 rw[Bool.eq_iff_iff]
 simp
theorem qp7 {i j:Str}:decide (V.str i=V.str j)=(i==j):=by
 rw[Bool.eq_iff_iff]
 simp
theorem qp8 {i j:Array UInt8}:decide (V.byt i=V.byt j)=(i.toList==j.toList):=by
 rw[Bool.eq_iff_iff]
 cases i
 cases j
 simp
section
variable {X:Cx} {a b c:Expr} {ta tb tc:TE} {pos:Pos}
theorem qp {pins:List (Addr × Obj)} {σ:St} {H:Hp} {s:Shared} {Q:VK} {k k':Bool} (I:Inv X pins σ H s) (q:Q (.bl k) H) (e:k=k'):EP X pins σ Q (.bool k') s:=by
 subst e
 exact⟨.bl k,H,I,rfl,q⟩
theorem q23:OpR X (compareOp .Eq) rEq:=by
 intro pins s σ H x y v u Q I rx ry h
 obtain ⟨hs,q⟩:=h
 cases x with
 | non =>
   cases rx
   cases y with
   | non=>cases ry;exact PySem.EqNone.eq_none_none (qp I q (by simp))
   | bl j=>cases ry;exact PySem.EqNone.eq_none_bool (qp I q (by simp))
   | int j=>obtain ⟨t',rfl⟩:=ry;exact PySem.EqNone.eq_none_int (qp I q (by simp))
   | str j=>obtain ⟨t',rfl⟩:=ry;exact PySem.EqNone.eq_none_str (qp I q (by simp))
   | _=>exact absurd (show false=true from hs) Bool.false_ne_true
 | bl i =>
   cases rx
   cases y with
   | non=>cases ry;exact PySem.EqNone.eq_bool_none (qp I q (by simp))
   | bl j=>cases ry;exact eq_bool (qp I q qsv)
   | str j=>obtain ⟨t',rfl⟩:=ry;exact PySem.EqMixed.eq_bool_str (qp I q (by simp))
   | _=>exact absurd (show false=true from hs) Bool.false_ne_true
 | int i =>
   obtain ⟨t,rfl⟩:=rx
   cases y with
   | non=>cases ry;exact PySem.EqNone.eq_int_none (qp I q (by simp))
   | int j=>obtain ⟨t',rfl⟩:=ry;exact eq_int (qp I q qk3)
   | str j=>obtain ⟨t',rfl⟩:=ry;exact PySem.EqMixed.eq_int_str (qp I q (by simp))
   | _=>exact absurd (show false=true from hs) Bool.false_ne_true
 | str i =>
   obtain ⟨t,rfl⟩:=rx
   cases y with
   | non=>cases ry;exact PySem.EqNone.eq_str_none (qp I q (by simp))
   | bl j=>cases ry;exact PySem.EqMixed.eq_str_bool (qp I q (by simp))
   | int j=>obtain ⟨t',rfl⟩:=ry;exact PySem.EqMixed.eq_str_int (qp I q (by simp))
   | str j=>obtain ⟨t',rfl⟩:=ry;exact eq_str (qp I q qp7)
   | _=>exact absurd (show false=true from hs) Bool.false_ne_true
 | byt i =>
   obtain ⟨t,rfl⟩:=rx
   cases y with
   | byt j=>obtain ⟨t',rfl⟩:=ry;exact PySem.W.eq_bytes (qp I q qp8)
   | _=>exact absurd (show false=true from hs) Bool.false_ne_true
 | _=>cases y <;> exact absurd (show false=true from hs) Bool.false_ne_true
theorem q24:OpR X (compareOp .NotEq) rNe:=by
 intro pins s σ H x y v u Q I rx ry h
 obtain ⟨hs,q⟩:=h
 cases x with
 | non =>
   cases rx
   cases y with
   | non=>cases ry;exact PySem.EqNone.ne_none_none (qp I q (by simp))
   | bl j=>cases ry;exact PySem.EqNone.ne_none_bool (qp I q (by simp))
   | int j=>obtain ⟨t',rfl⟩:=ry;exact PySem.EqNone.ne_none_int (qp I q (by simp))
   | str j=>obtain ⟨t',rfl⟩:=ry;exact PySem.EqNone.ne_none_str (qp I q (by simp))
   | _=>exact absurd (show false=true from hs) Bool.false_ne_true
 | bl i =>
   cases rx
   cases y with
   | non=>cases ry;exact PySem.EqNone.ne_bool_none (qp I q (by simp))
   | bl j=>cases ry;exact ne_bool (qp I q (congrArg not qsv))
   | str j=>obtain ⟨t',rfl⟩:=ry;exact PySem.EqMixed.ne_bool_str (qp I q (by simp))
   | _=>exact absurd (show false=true from hs) Bool.false_ne_true
 | int i =>
   obtain ⟨t,rfl⟩:=rx
   cases y with
   | non=>cases ry;exact PySem.EqNone.ne_int_none (qp I q (by simp))
   | int j=>obtain ⟨t',rfl⟩:=ry;exact ne_int (qp I q (congrArg not qk3))
   | str j=>obtain ⟨t',rfl⟩:=ry;exact PySem.EqMixed.ne_int_str (qp I q (by simp))
   | _=>exact absurd (show false=true from hs) Bool.false_ne_true
 | str i =>
   obtain ⟨t,rfl⟩:=rx
   cases y with
   | non=>cases ry;exact PySem.EqNone.ne_str_none (qp I q (by simp))
   | bl j=>cases ry;exact PySem.EqMixed.ne_str_bool (qp I q (by simp))
   | int j=>obtain ⟨t',rfl⟩:=ry;exact PySem.EqMixed.ne_str_int (qp I q (by simp))
   | str j=>obtain ⟨t',rfl⟩:=ry;exact ne_str (qp I q (congrArg not qp7))
   | _=>exact absurd (show false=true from hs) Bool.false_ne_true
 | byt i =>
   obtain ⟨t,rfl⟩:=rx
   cases y with
   | byt j=>obtain ⟨t',rfl⟩:=ry;exact PySem.W.ne_bytes (qp I q (congrArg not qp8))
   | _=>exact absurd (show false=true from hs) Bool.false_ne_true
 | _=>cases y <;> exact absurd (show false=true from hs) Bool.false_ne_true
theorem q25:OpR X (compareOp .Lt) (rI0 fun i j=>.bl (decide (i < j))):=qv4 fun _ _ _ _ _ _ _ q=>lt_int q
theorem q26:OpR X (compareOp .LtE) (rI0 fun i j=>.bl (decide (i≤j))):=qv4 fun _ _ _ _ _ _ _ q=>le_int q
theorem q27:OpR X (compareOp .Gt) (rI0 fun i j=>.bl (decide (j < i))):=qv4 fun _ _ _ _ _ _ _ q=>gt_int q
theorem q28:OpR X (compareOp .GtE) (rI0 fun i j=>.bl (decide (j≤i))):=qv4 fun _ _ _ _ _ _ _ q=>ge_int q
theorem qq8:OpR X (compareOp .In) (fun x y H Q=>∃ i j,x=.str i∧y=.str j∧Q (.bl (!(Builtin.Str.occurrences j i 0 j.length 1).isEmpty)) H):=by
 intro pins s σ H x y v u Q I rx ry h
 obtain ⟨i,j,rfl,rfl,q⟩:=h
 obtain ⟨t,rfl⟩:=rx
 obtain ⟨t',rfl⟩:=ry
 exact in_str (qp I q rfl)
theorem qzw:OpR X (compareOp .Is) (fun x y H Q=>y=.non∧Q (.bl (decide (x=.non))) H):=by
 intro pins s σ H x y v u Q I rx ry h
 obtain ⟨rfl,q⟩:=h
 cases ry
 refine is_none_gen (qp I q ?_)
 cases x <;> first
   | (cases rx;rfl)
   | (obtain ⟨t,rfl⟩:=rx;rfl)
theorem qv5:OpR X (compareOp .IsNot) (fun x y H Q=>y=.non∧Q (.bl (!decide (x=.non))) H):=by
 intro pins s σ H x y v u Q I rx ry h
 obtain ⟨rfl,q⟩:=h
 cases ry
 refine isnot_none_gen (qp I q ?_)
 cases x <;> first
   | (cases rx;rfl)
   | (obtain ⟨t,rfl⟩:=rx;rfl)
theorem qk4:OpR X (compareOp .NotIn) (fun x y H Q=>∃ i j,x=.str i∧y=.str j∧Q (.bl (!(!(Builtin.Str.occurrences j i 0 j.length 1).isEmpty))) H):=by
 intro pins s σ H x y v u Q I rx ry h
 obtain ⟨i,j,rfl,rfl,q⟩:=h
 obtain ⟨t,rfl⟩:=rx
 obtain ⟨t',rfl⟩:=ry
 exact notIn_str (qp I q rfl)
theorem OpR.or {f:Value→Value→Sem Value} {r r':R2} (h:OpR X f r) (h':OpR X f r'):OpR X f (fun x y H Q=>r x y H Q∨r' x y H Q):=by
 intro pins s σ H x y v u Q I rx ry q
 rcases q with q | q
 · exact h pins s σ H x y v u Q I rx ry q
 · exact h' pins s σ H x y v u Q I rx ry q
theorem qv6 {op:CmpOp} {r:R2} (ho:OpR X (compareOp op) r) (ha:PE X a ta) (hb:PE X b tb) (hm:behindInMarks op b=false):PE X (.Compare a [op] [b] pos) (tOp r ta tb):=by
 intro pins s σ H Q I h
 exact wpAny_Compare1 (qzq ha hb I h fun v u s2 x y H2 I2 rx ry q=>ho pins s2 σ H2 x y v u Q I2 rx ry q) hm
noncomputable def qyq (t:TE):TT:=fun σ H Q=>t σ H fun x H'=>∃ k,x=.bl k∧Q k H'
theorem qv7 {op:CmpOp} {r:R2} (ho:OpR X (compareOp op) r) (ha:PE X a ta) (hb:PE X b tb) (hm:behindInMarks op b=false):PT X (.Compare a [op] [b] pos) (qyq (tOp r ta tb)):=by
 intro pins s σ H Q I h
 refine wpAny_isTrue_Compare1 (thn (ha pins s σ H _ I h) fun v s1 ⟨x,H1,I1,r1,q1⟩=>thn (hb pins s1 σ H1 _ I1 q1) fun u s2 ⟨y,H2,I2,r2,q2⟩ =>
   thn (ho pins s2 σ H2 x y v u _ I2 r1 r2 q2) fun c s3 ⟨z,H3,I3,r3,k,e,q3⟩=> ?_) hm
 subst e
 cases r3
 exact wpAny_truthy_bool ⟨H3,I3,q3⟩
noncomputable def qov (r r':R2) (ta tb tc:TE):TE:=fun σ H Q=>ta σ H fun x H1=>tb σ H1 fun y H2=>r x y H2 fun z H3=>∃ k,z=.bl k ∧
 (if k=true then tc σ H3 fun w' H4=>r' y w' H4 Q else Q (.bl false) H3)
theorem qsw {op op':CmpOp} {r r':R2} (ho:OpR X (compareOp op) r) (ho':OpR X (compareOp op') r') (ha:PE X a ta) (hb:PE X b tb) (hc:PE X c tc)
   (hm:lastMarks [op,op'] [b,c]=false:=by with_unfolding_all rfl):PE X (.Compare a [op,op'] [b,c] pos) (qov r r' ta tb tc):=by
 intro pins s σ H Q I h
 refine Compare_chain (thn (ha pins s σ H _ I h) fun v s1 ⟨x,H1,I1,r1,q1⟩=>chain_link (thn (hb pins s1 σ H1 _ I1 q1) fun u s2 ⟨y,H2,I2,r2,q2⟩ =>
   thn (ho pins s2 σ H2 x y v u _ I2 r1 r2 q2) fun d s3 ⟨z,H3,I3,r3,k,e,q3⟩=> ?_)) hm
 subst e
 cases r3
 refine wpAny_truthy_bool ?_
 cases k with
 | false=>exact ite_ff ⟨.bl false,H3,I3,rfl,q3⟩
 | true=>exact ite_tt (chain_last (thn (hc pins s3 σ H3 _ I3 q3) fun w' s4 ⟨z',H4,I4,r4,q4⟩=>ho' pins s4 σ H4 y z' u w' Q I4 r2 r4 q4))
theorem qsx {op op':CmpOp} {r r':R2} (ho:OpR X (compareOp op) r) (ho':OpR X (compareOp op') r') (ha:PE X a ta) (hb:PE X b tb) (hc:PE X c tc)
   (hm:lastMarks [op,op'] [b,c]=false:=by with_unfolding_all rfl):PT X (.Compare a [op,op'] [b,c] pos) (qyq (qov r r' ta tb tc)):=by
 intro pins s σ H Q I h
 refine isTrue_chain (thn (ha pins s σ H _ I h) fun v s1 ⟨x,H1,I1,r1,q1⟩=>test_link (thn (hb pins s1 σ H1 _ I1 q1) fun u s2 ⟨y,H2,I2,r2,q2⟩ =>
   thn (ho pins s2 σ H2 x y v u _ I2 r1 r2 q2) fun d s3 ⟨z,H3,I3,r3,k,e,q3⟩=> ?_)) hm
 subst e
 cases r3
 refine wpAny_truthy_bool ?_
 cases k with
 | false =>
   obtain ⟨k',e',q'⟩:=q3
   cases e'
   exact ite_ff ⟨H3,I3,q'⟩
 | true =>
   refine ite_tt (test_last (thn (hc pins s3 σ H3 _ I3 q3) fun w' s4 ⟨z',H4,I4,r4,q4⟩=>thn (ho' pins s4 σ H4 y z' u w' _ I4 r2 r4 q4) fun d' s5 ⟨z2,H5,I5,r5,k2,e2,q5⟩=> ?_))
   subst e2
   cases r5
   exact wpAny_truthy_bool ⟨H5,I5,q5⟩
noncomputable def q29 (K:PySem.W.Frag) (x:V) (H:Hp) (k:Bool):Prop :=
 match x with
 | .non=>k=false
 | .bl b=>k=b
 | .int i=>k=(i != 0)
 | .str y=>y.length≤sizeLine∧k=((y.length:Int) != 0)
 | .byt y=>y.size≤sizeLine∧k=((y.size:Int) != 0)
 | .ref p=>(∃ xs,SqL K H p xs∧k= !xs.isEmpty)∨(∃ xs,SqT K H p xs∧k= !xs.isEmpty)∨∃ kvs,H p=some (.dK kvs)∧k= !kvs.isEmpty
 | _=>False
theorem qow {κ:Type} {kvs:List (κ × V)} {vs:List (κ × Value)} (r:KV kvs vs):(!vs.isEmpty)= !kvs.isEmpty:=by
 cases r <;> rfl
theorem qh2 {xs:List V} {its:List Value} (r:Vals xs its):(!its.toArray.isEmpty)= !xs.isEmpty:=by
 cases r <;> simp
theorem qdn:(sizeLine:Nat) < 2 ^ 63:=by rw[sizeLine_eq];decide
theorem qzx:q20 X (fun x H Q=>∃ k,q29 X.K x H k∧Q k H):=by
 intro pins s σ H x v Q I rx h
 obtain ⟨k,e,q⟩:=h
 have hl:=qdn
 have hs:sizeLine=16777216:=sizeLine_eq
 cases x with
 | non =>
   cases rx
   have e':k=false:=e
   subst e'
   exact truthy_none ⟨H,I,q⟩
 | bl b =>
   cases rx
   have e':k=b:=e
   subst e'
   exact wpAny_truthy_bool ⟨H,I,q⟩
 | int i =>
   obtain ⟨t,rfl⟩:=rx
   have e':k=(i != 0):=e
   subst e'
   exact PySem.P.truthy_int ⟨H,I,q⟩
 | str y =>
   obtain ⟨t,rfl⟩:=rx
   obtain ⟨hy,e'⟩:y.length≤sizeLine∧k=((y.length:Int) != 0):=e
   subst e'
   exact PySem.P.truthy_str (by omega) ⟨H,I.tok _,q⟩
 | byt y =>
   obtain ⟨t,rfl⟩:=rx
   obtain ⟨hy,e'⟩:y.size≤sizeLine∧k=((y.size:Int) != 0):=e
   subst e'
   exact PySem.W.truthy_bytes (by omega) ⟨H,I.tok _,q⟩
 | ref p =>
   cases rx
   have e':(∃ xs,SqL X.K H p xs∧k= !xs.isEmpty)∨(∃ xs,SqT X.K H p xs∧k= !xs.isEmpty)∨∃ kvs,H p=some (.dK kvs)∧k= !kvs.isEmpty:=e
   rcases e' with ⟨xs,hx,e'⟩ | ⟨xs,hx,e'⟩ | ⟨kvs,hx,e'⟩
   · subst e'
     obtain ⟨its,r,pl,hz⟩:=I.list hx
     have hlen:=r.length
     exact wpAny_truthy_list pl.isList (by simp only [List.size_toArray];omega) ⟨H,I.tok _,by rw[qh2 r];exact q⟩
   · subst e'
     obtain ⟨its,r,pl,hz⟩:=I.tuple hx
     have hlen:=r.length
     exact truthy_tuple pl (by simp only [List.size_toArray];omega) ⟨H,I.tok _,by rw[qh2 r];exact q⟩
   · subst e'
     obtain ⟨hz,hS,vs,r,m⟩:kvs.length≤sizeLine∧(p==sysModules)=false∧∃ vs,KV kvs vs∧s.heap.DictOf (qx X.prog X.w) p vs:=I.hok p _ hx
     have hlen:kvs.length=vs.length:=Paired.length r
     exact wpAny_truthy_dict hS m (by omega) ⟨H,I.tok _,by rw[qow r];exact q⟩
 | _=>exact(show False from e).elim
theorem qox:OpR X (binaryOp .Add) (fun x y H Q=>∃ i j,x=.str i∧y=.str j∧i.length+j.length≤sizeLine∧Q (.str (i++j)) H):=by
 intro pins s σ H x y v u Q I rx ry h
 obtain ⟨i,j,rfl,rfl,hz,q⟩:=h
 obtain ⟨t,rfl⟩:=rx
 obtain ⟨t',rfl⟩:=ry
 exact add_str (fun t' tk=>⟨.str (i++j),H,I.tok _,⟨_,rfl⟩,q⟩) hz
theorem vals1 {x:V} {us:List Value} (r:Vals [x] us):∃ u,us=[u]∧RelV x u:=by
 cases r with
 | cons r1 r2=>cases r2;exact⟨_,rfl,r1⟩
theorem qq9:qbj X (.type "int") (fun xs H Q=>(∃ i,xs=[.int i]∧Q (.int i) H)∨∃ k,xs=[.bl k]∧Q (.int (if k then 1 else 0)) H):=by
 intro pins s σ H xs us Q I r h
 rcases h with ⟨i,rfl,q⟩ | ⟨k,rfl,q⟩
 · obtain ⟨u,rfl,t,rfl⟩:=vals1 r
   exact call_int_int ⟨.int i,H,I,⟨_,rfl⟩,q⟩
 · obtain ⟨u,rfl,r1⟩:=vals1 r
   cases r1
   exact call_int_bool ⟨.int (if k then 1 else 0),H,I.tok _,⟨_,rfl⟩,q⟩
theorem qk5:qbj X (.type "str") (fun xs H Q=>∃ i,xs=[.int i]∧i.natAbs.log2 < 1920∧Q (.str (toString i)) H):=by
 intro pins s σ H xs us Q I r h
 obtain ⟨i,rfl,hz,q⟩:=h
 obtain ⟨u,rfl,t,rfl⟩:=vals1 r
 exact PySem.P.str_of_int hz ⟨.str _,H,I.tok _,⟨_,rfl⟩,q⟩
end
structure qzy (h:Heap) (x dx C:Addr) (mA:Str→Option Value):Prop where
 obj:h.get? x=some (PySem.W.instObj C dx)
 ns:h.Ns1 dx mA
 ne:dx ≠ x
theorem qra {h:Heap} {dx:Addr} {mA:Str→Option Value} (n:h.Ns1 dx mA):∃ od,h.get? dx=some od∧∀ name,PySem.W.lookIn name od=some (mA name):=by
 obtain ⟨o,es,ep,ho,hd,hk,_,hm⟩:=n
 refine⟨o,ho,fun name=> ?_⟩
 have e:=hm name
 unfold nsFind findBy at e
 rw[← Array.find?_toList]at e
 unfold PySem.W.lookIn
 rw[hd]
 dsimp only
 split
 · rename_i y q
   rw[q]at e
   exact congrArg some e
 · rename_i q
   rw[q]at e
   have a:es.toList.any (·.refKey)=false:=by
     rw[List.any_eq_false]
     intro y hy
     obtain ⟨z,t,hkey⟩:=hk y (Array.mem_toList_iff.mp hy)
     simp [DictEntry.refKey,hkey]
   have a':¬ es.toList.any (·.refKey)=true:=by rw[a];exact Bool.false_ne_true
   rw[if_neg a']
   exact congrArg some e
theorem qzy.look {h:Heap} {x dx C:Addr} {mA:Str→Option Value} (I:qzy h x dx C mA):∃ od,PySem.W.InstAt h x (PySem.W.instObj C dx) C (some od)∧∀ name,PySem.W.lookIn name od=some (mA name) :=
 let ⟨od,ho,hl⟩:=qra I.ns
 ⟨od,⟨I.obj,rfl,rfl,ho⟩,hl⟩
theorem qfw.some_of {v:V} {o:Option Value} (r:qfw (some v) o):∃ u,o=some u∧RelV v u:=by
 cases o with
 | none=>exact(show False from r).elim
 | some u=>exact⟨u,rfl,r⟩
section
variable {P:Program} {w:World} {H H':Hp} {h h':Heap} {a C dx:Addr} {fs fs':List (Str × V)}
theorem qv8 (hok:HOk P w H h) (e:H a=some (.ins C dx fs)):∃ mA,qzy h a dx C mA∧(∀ f,qfw (fs.lookup f) (mA f))∧PySem.Within mA (fs.map (·.1))∧fs.length≤1000∧H dx=some (.own a):=by
 obtain ⟨d,z,ne,ob,mA,n,r,q⟩:=(show qad P w H h a (.ins C dx fs) from hok a _ e)
 exact⟨mA,⟨ob,n,ne⟩,r,q,z,d⟩
end
structure Cls (K:PySem.W.Frag) (C:Addr):Prop where
 pg:PySem.W.plainGet K C Str.empty=true
 hd:PySem.W.hasDictIn K C=true
 po:PySem.W.plainOver K C=true
 sa:PySem.W.findIn K (.ref C) "__setattr__"=some (some (.builtin "object.__setattr__"))
theorem Cls.get {K:PySem.W.Frag} {C:Addr} (c:Cls K C) (f:Str):PySem.W.plainGet K C f=true:=c.pg
section
variable {X:Cx} {pins:List (Addr × Obj)} {σ:St} {H:Hp} {s:Shared} {A:Around} {E:Value→Shared→Prop} {Q:Value→Shared→Prop} {c:Value} {b:Bool}
inductive qe7 (K:PySem.W.Frag) (H:Hp):V→Value→Prop where
 | non:qe7 K H .non (.type "NoneType")
 | bl (x:Bool):qe7 K H (.bl x) (.type "bool")
 | int (i:Int):qe7 K H (.int i) (.type "int")
 | str (x:Str):qe7 K H (.str x) (.type "str")
 | flt (x:UInt64):qe7 K H (.flt x) (.type "float")
 | lst {a:Addr} {xs:List V} (e:H a=some (.lst xs)):qe7 K H (.ref a) (.type "list")
 | frz {a:Addr} {o:Obj} {xs:List V} (e:H a=some (.frz o (.lst xs))):qe7 K H (.ref a) (.type "list")
 | tup {a:Addr} {xs:List V} (e:H a=some (.tup xs)):qe7 K H (.ref a) (.type "tuple")
 | dK {a:Addr} {kvs:List (Key × V)} (e:H a=some (.dK kvs)):qe7 K H (.ref a) (.type "dict")
 | dT {a:Addr} {kvs:List (List Key × V)} (e:H a=some (.dT kvs)):qe7 K H (.ref a) (.type "dict")
 | ins {a C dx:Addr} {fs:List (Str × V)} (e:H a=some (.ins C dx fs)) (cl:Cls K C) (ha:PySem.W.findIn K (.ref C) "__class__"=some (some (.builtin "object.__class__")))
     (hn:PySem.W.specialIn K (.builtin "object.__class__") "__get__"=some (some (.builtin "getset_descriptor.__get__"))) (htk:PySem.W.takesIn K (.builtin "object.__class__")=some true)
     (hm:PySem.W.mroIn K C (.type "object")=some true):qe7 K H (.ref a) (.ref C)
theorem qrb {x:V} {u t:Value} (I:Inv X pins σ H s) (rx:RelV x u) (ty:qe7 X.K H x t) (e:PySem.W.kitOne X.K t c=some b) (h:∀ tk,Q (.bool b) { s with toks:=tk }) :
   wpAny (model X.prog X.w) A (call (.builtin "isinstance") [u,c]) Q E s:=by
 cases ty with
 | non=>cases (show u=Value.none from rx);exact PySem.W.kia_one PySem.W.kitx_none I.kIn True.intro e (fun z=>nomatch z) h
 | bl y=>cases (show u=Value.bool y from rx);exact PySem.W.kia_one PySem.W.kitx_bool I.kIn True.intro e (fun z=>nomatch z) h
 | int i=>obtain ⟨t,q⟩:=(show ∃ t,u=Value.int i t from rx);cases q;exact PySem.W.kia_one PySem.W.kitx_int I.kIn True.intro e (fun z=>nomatch z) h
 | str y=>obtain ⟨t,q⟩:=(show ∃ t,u=Value.str y t from rx);cases q;exact PySem.W.kia_one PySem.W.kitx_str I.kIn True.intro e (fun z=>nomatch z) h
 | flt y=>obtain ⟨t,q⟩:=(show ∃ t,u=Value.float y t from rx);cases q;exact PySem.W.kia_one PySem.W.kitx_float I.kIn True.intro e (fun z=>nomatch z) h
 | @lst a xs ea =>
   cases (show u=Value.ref a from rx)
   obtain ⟨_,_,n,_,h1⟩:=(show qad X.prog X.w H s.heap a (.lst xs) from I.hok a _ ea)
   exact PySem.W.kia_one PySem.W.kitx_list I.kIn ⟨_,h1,rfl⟩ e (fun z=>nomatch z) h
 | @frz a ob xs ea =>
   cases (show u=Value.ref a from rx)
   obtain ⟨_,_,_,n,_,h1⟩:=(show qad X.prog X.w H s.heap a (.frz ob (.lst xs)) from I.hok a _ ea)
   exact PySem.W.kia_one PySem.W.kitx_list I.kIn ⟨_,h1,rfl⟩ e (fun z=>nomatch z) h
 | @tup a xs ea =>
   cases (show u=Value.ref a from rx)
   obtain ⟨_,_,_,p⟩:=(show qad X.prog X.w H s.heap a (.tup xs) from I.hok a _ ea)
   obtain ⟨o,h1,h2,_⟩:=p
   exact PySem.W.kia_one PySem.W.kitx_tuple I.kIn ⟨o,h1,h2⟩ e (fun z=>nomatch z) h
 | @dK a kvs ea =>
   cases (show u=Value.ref a from rx)
   obtain ⟨_,_,vs,_,p⟩:=(show qad X.prog X.w H s.heap a (.dK kvs) from I.hok a _ ea)
   obtain ⟨o,es,ep,h1,h2,_⟩:=p
   exact PySem.W.kia_one PySem.W.kitx_dict I.kIn ⟨o,h1,h2.1⟩ e (fun z=>nomatch z) h
 | @dT a kvs ea =>
   cases (show u=Value.ref a from rx)
   obtain ⟨_,_,xs,_,o,es,ep,h1,h2,_⟩:=(show qad X.prog X.w H s.heap a (.dT kvs) from I.hok a _ ea)
   exact PySem.W.kia_one PySem.W.kitx_dict I.kIn ⟨o,h1,h2.1⟩ e (fun z=>nomatch z) h
 | @ins a C dx fs ea cl ha hn htk hm =>
   cases (show u=Value.ref a from rx)
   obtain ⟨mA,O,_⟩:=qv8 I.hok ea
   obtain ⟨od,J,_⟩:=O.look
   exact PySem.W.kia_one (PySem.W.kitx_own (cl.get _) cl.hd ha hn htk hm) I.kIn J e (fun z=>nomatch z) h
end
structure qaw (k:Nat) (A:Around):Prop where
 hd:A.handled=none
 dp:A.depth+3 * k+5 < recursionLimit
 un:A.units+16 * k+200 < cLine
theorem qaw.mono {j k:Nat} {A:Around} (r:qaw k A) (h:j≤k):qaw j A:=⟨r.hd,by have:=r.dp;omega,by have:=r.un;omega⟩
theorem qaw.deeper {k:Nat} {A:Around} (r:qaw (k+1) A) (env:Env):qaw k (A.deeper env) :=
 ⟨r.hd,by have:=r.dp;show A.depth+1+3 * k+5 < _;omega,by have:=r.un;show A.units+3+16 * k+200 < _;omega⟩
theorem qoy {A:Around} {C:Addr} {us:List Value} {kw:List (Str × Value)}:(A.under (.builtin "type.__call__" ⟨.ref C::us,kw⟩)).depth=A.depth+1:=by
 first | rfl | simp [Around.under,Code.weight,Code.isCreation,Code.isGuard,Code.isCaller,Code.frames,Code.isFrame,guardIds]
theorem qoz {A:Around} {C:Addr} {us:List Value} {kw:List (Str × Value)}:(A.under (.builtin "type.__call__" ⟨.ref C::us,kw⟩)).units=A.units+1:=by
 first | rfl | simp [Around.under,Code.cUnits,Code.frames,Code.isFrame]
theorem qaw.make {k:Nat} {A:Around} (r:qaw (k+1) A) (C:Addr) (us:List Value) (kw:List (Str × Value)):qaw k (A.under (.builtin "type.__call__" ⟨.ref C::us,kw⟩)) :=
 ⟨r.hd,by have:=r.dp;rw[qoy];omega,by have:=r.un;rw[qoz];omega⟩
theorem qaw.depth {k:Nat} {A:Around} (r:qaw k A):A.depth < recursionLimit:=by have:=r.dp;omega
theorem qaw.units {k:Nat} {A:Around} (r:qaw k A):A.units+64 < cLine:=by have:=r.un;omega
noncomputable def qzz:TA:=fun _ H Q=>Q [] H
noncomputable def qsy (ta:TE) (tr:TA):TA:=fun σ H Q=>ta σ H fun x H1=>tr σ H1 fun xs H2=>Q (x::xs) H2
section
variable {X:Cx} {e:Expr} {es:List Expr} {te:TE} {t:TA} {pos:Pos}
theorem qc6:PA X [] qzz:=fun _ _ _ _ H Q I h=>Calls.spliced_nil ⟨[],H,I,.nil,h⟩
theorem qah (ha:PE X e te) (hr:PA X es t) (hs:starEach (e::es) X.env=(false,eval e X.env)::starEach es X.env:=by rfl):PA X (e::es) (qsy te t):=by
 intro pos pins s σ H Q I h
 rw[hs]
 show wpAny _ _ (spliced ((false,eval e X.env)::backTo pos (starEach es X.env))) _ _ s
 refine Calls.spliced_cons (thn (ha pins s σ H _ I h) fun u s1 ⟨x,H1,I1,r1,q1⟩=> ?_)
 exact thn (hr pos pins s1 σ H1 _ I1 q1) fun us s2 ⟨xs,H2,I2,r2,q2⟩=>⟨x::xs,H2,I2,.cons r1 r2,q2⟩
noncomputable def q6d (t:TA):TE:=fun σ H Q=>t σ H fun xs H1=>xs.length≤sizeLine∧∀ p,H1 p=none→Q (.ref p) (upd H1 p (.tup xs))
noncomputable def qz0 (t:TA):TE:=fun σ H Q=>t σ H fun xs H1=>xs.length≤sizeLine∧∀ p,H1 p=none→Q (.ref p) (upd H1 p (.lst xs))
theorem qz1 {x1} (h:PA X es t):PE X (.Tuple es x1 pos) (q6d t):=by
 intro pins s σ H Q I hq
 refine wpAny_Tuple_spliced (thn (h pos pins s σ H _ I hq) fun us s1 ⟨xs,H1,I1,r,z,q⟩=>⟨by rw[← r.length];exact z,?_⟩)
 have hf:H1 s1.heap.objs.size=none:=I1.hok.fresh (Nat.le_refl _)
 refine⟨.ref s1.heap.objs.size,upd H1 s1.heap.objs.size (.tup xs),I1.laid (t':=s1.toks) (fun b u e=>Heap.get?_push_of_some _ e) (Nat.le_refl _) ?_,rfl,q _ hf⟩
 exact⟨z,us,r,⟨_,Heap.get?_push_size _ rfl,rfl,_,rfl⟩⟩
theorem qo0 (h:PA X es t):PE X (.List es pos) (qz0 t):=by
 intro pins s σ H Q I hq
 refine wpAny_List_spliced (thn (h pos pins s σ H _ I hq) fun us s1 ⟨xs,H1,I1,r,z,q⟩=>⟨by rw[← r.length];exact z,?_⟩)
 have hf:H1 s1.heap.objs.size=none:=I1.hok.fresh (Nat.le_refl _)
 refine⟨.ref s1.heap.objs.size,upd H1 s1.heap.objs.size (.lst xs),I1.laid (t':=s1.toks) (fun b u e=>Heap.get?_push_of_some _ e) (Nat.le_refl _) ?_,rfl,q _ hf⟩
 exact⟨z,us,0,r,Heap.get?_push_size _ rfl⟩
end
noncomputable abbrev Sp:=List V→Hp→VK→XK→Prop
noncomputable abbrev CXT:=List Env→Hp→Shared→XK→Value→Shared→Prop
structure qo1 (P:Program) (w:World) (K:PySem.W.Frag) (mg:Str→Option Value) (base:Heap) (A:Around) (outer:List Env) (s:Shared) (H:Hp):Prop where
 frames:A.frames=some outer
 mod:Mod K mg base
 bs:∀ b o,base.get? b=some o→s.heap.get? b=some o∧H b=none
 bsz:base.objs.size≤s.heap.objs.size
 funs:s.heap.FunFrames base outer
 frf:∀ b ∈ frs outer,H b=none
 hok:HOk P w H s.heap
 bare:AllBare s.gens
noncomputable def CE (outer:List Env) (P:Program) (w:World) (H:Hp) (s:Shared) (Q:VK) (u:Value) (s':Shared):Prop :=
 ∃ v H',s'.os=s.os∧AllBare s'.gens∧Un (frs outer) [] H H' s.heap s'.heap∧HOk P w H' s'.heap∧RelV v u∧Q v H'
noncomputable def CR (CX:CXT) (outer:List Env) (P:Program) (w:World) (H:Hp) (s:Shared) (Q:VK) (E:XK) (r:Result) (s':Shared):Prop :=
 match r with
 | .ok (.ret u)=>CE outer P w H s Q u s'
 | .ok _=>False
 | .error e=>CX outer H s E e s'
structure qay (P:Program) (w:World) (K:PySem.W.Frag) (mg:Str→Option Value) (base:Heap) (CX:CXT) (k:Nat) (f:Addr) (fd:FuncData) (ps:List Str) (sp:Sp):Prop where
 len:∀ vs H Q E,sp vs H Q E→vs.length=ps.length
 run:∀ (A:Around) (outer:List Env) (s:Shared) (H:Hp) (args:Args) (us:List Value) (vs:List V) (Q:VK) (E:XK),qaw k A→qo1 P w K mg base A outer s H→BindsTo s fd args (ps.zip us)→Vals vs us→sp vs H Q E →
   codeAny (model P w) A (.call (.ref f) args) (CR CX outer P w H s Q E) s
theorem qay.mono {P:Program} {w:World} {K:PySem.W.Frag} {mg:Str→Option Value} {base:Heap} {CX:CXT} {j k:Nat} {f:Addr} {fd:FuncData} {ps:List Str} {sp:Sp} (F:qay P w K mg base CX j f fd ps sp) (h:j≤k) :
   qay P w K mg base CX k f fd ps sp:=⟨F.len,fun A outer s H args us vs Q E hr=>F.run A outer s H args us vs Q E (hr.mono h)⟩
theorem qo1.make {P:Program} {w:World} {K:PySem.W.Frag} {mg:Str→Option Value} {base:Heap} {A:Around} {outer:List Env} {s:Shared} {H:Hp} (e:qo1 P w K mg base A outer s H) (C:Addr) (us:List Value) (kw:List (Str × Value)) :
   qo1 P w K mg base (A.under (.builtin "type.__call__" ⟨.ref C::us,kw⟩)) outer s H:=⟨by first | exact e.frames | (simpa [Around.under,Code.envs,Code.isFrame,pushEnvs]using e.frames),e.mod,e.bs,e.bsz,e.funs,e.frf,e.hok,e.bare⟩
section
variable {X:Cx} {pins:List (Addr × Obj)} {σ:St} {H:Hp} {s s':Shared}
theorem Inv.env0 (I:Inv X pins σ H s):qo1 X.prog X.w X.K X.mg X.base X.A X.stack s H :=
 ⟨I.ok.frames,I.ok.mod,I.bs,Nat.le_trans I.ok.bsz I.sz,I.stack,I.stkFree,I.hok,I.bare⟩
theorem Inv.after {Q:VK} {u:Value} (I:Inv X pins σ H s) (h:CE X.stack X.prog X.w H s Q u s'):EP X pins σ Q u s':=by
 obtain ⟨v,H',os,bare,un,hok,r,q⟩:=h
 obtain ⟨hh,g,d,t,os'⟩:=s'
 obtain rfl:os'=s.os:=os
 exact⟨v,H',I.call (h':=hh) (g':=g) (d':=d) (t':=t) (ch:=[]) un hok bare (fun b z=>absurd z (by simp)),r,q⟩
end
noncomputable def qp9 (sp:Sp) (dvs:List V) (E:XK) (t:TA):TE:=fun σ H Q=>t σ H fun vs H1=>sp (vs++dvs) H1 Q E
noncomputable def Binds (K:PySem.W.Frag) (fd:FuncData) (ps:List Str) (ds:List Value):Prop :=
 ∀ (s:Shared) (us:List Value),K.In s.heap→(us++ds).length=ps.length→BindsTo s fd ⟨us,[]⟩ (ps.zip (us++ds))
theorem Binds.all {K:PySem.W.Frag} {fd:FuncData} {ps:List Str} (h:∀ us:List Value,us.length=ps.length→bindArgs fd ⟨us,[]⟩=pure (ps.zip us)):Binds K fd ps []:=fun s us _ hl=>by
 rw[List.append_nil]at hl ⊢
 exact .of_eq (h us hl)
noncomputable def Passes (CX:CXT) (X:Cx) (E:XK):Prop:=∀ (pins:List (Addr × Obj)) (σ:St) (H:Hp) (s:Shared) (e:Value) (s':Shared),Inv X pins σ H s→CX X.stack H s E e s'→X.xe e s'
section
variable {X:Cx} {CX:CXT} {k:Nat} {f C:Addr} {fd:FuncData} {ps:List Str} {sp:Sp} {dvs:List V} {ds:List Value} {E:XK} {x m:Str} {p pos apos:Pos} {e o:Expr} {es:List Expr} {ta:TE} {t:TA}
theorem qo2 {pins:List (Addr × Obj)} {σ:St} {H:Hp} {s:Shared} {Q:VK} {us:List Value} {vs:List V} (F:qay X.prog X.w X.K X.mg X.base CX k f fd ps sp) (hr:qaw k X.A) (hb:Binds X.K fd ps ds) (hd:Vals dvs ds) (hx:Passes CX X E)
   (I:Inv X pins σ H s) (r:Vals vs us) (h:sp (vs++dvs) H Q E):wpAny (model X.prog X.w) X.A (call (.ref f) us) (EP X pins σ Q) X.xe s:=by
 have r2:Vals (vs++dvs) (us++ds):=r.append hd
 have hl:(us++ds).length=ps.length:=by rw[← r2.length];exact F.len _ _ _ _ h
 refine wpAny_call (codeAny_mono (F.run X.A X.stack s H ⟨us,[]⟩ (us++ds) (vs++dvs) Q E hr I.env0 (hb s us I.kIn hl) r2 h) fun r s' hq=> ?_)
 cases r with
 | error e=>exact hx pins σ H s e s' I hq
 | ok fl =>
   cases fl with
   | ret u=>exact I.after hq
   | next=>exact False.elim hq
   | brk=>exact False.elim hq
   | cont=>exact False.elim hq
theorem qqa (F:qay X.prog X.w X.K X.mg X.base CX k f fd ps sp) (hr:qaw k X.A) (hg:Gl X x) (hm:X.mg x=some (.ref f)) (hk:PySem.W.keepIn X.K (.ref f)=true) (hb:Binds X.K fd ps ds) (hd:Vals dvs ds) (hx:Passes CX X E)
   (ha:PA X (e::es) t) (hdb:(x==("__debug__":Str))=false:=by decide) (he:starEach (e::es) X.env=(false,eval e X.env)::starEach es X.env:=by rfl) (hpl:(backTo pos (starEach es X.env)).any (·.1)=false:=by rfl) :
   PE X (.Call (.Name x p) (e::es) [] pos) (qp9 sp dvs E t):=by
 intro pins s σ H Q I h
 refine wpAny_Call_Name_kw (qbs I hg hm ?_ hdb)
 refine PySem.W.callWith_K (h₀:=X.base) I.ok.mod.kin hk (thn (ha pos pins s σ H _ I h) fun us s1 ⟨vs,H1,I1,r,q⟩=>⟨I1.kIn,?_⟩) he hpl
 exact qo2 F hr hb hd hx I1 r q
theorem qsz (F:qay X.prog X.w X.K X.mg X.base CX k f fd ps sp) (hr:qaw k X.A) (hg:Gl X x) (hm:X.mg x=some (.ref f)) (hk:PySem.W.keepIn X.K (.ref f)=true) (hb:Binds X.K fd ps ds) (hd:Vals dvs ds) (hx:Passes CX X E)
   (hdb:(x==("__debug__":Str))=false:=by decide):PE X (.Call (.Name x p) [] [] pos) (qp9 sp dvs E qzz):=by
 intro pins s σ H Q I h
 refine wpAny_Call_Name_kw (qbs I hg hm ?_ hdb)
 exact PySem.W.callWith_K0 I.kIn hk (qo2 (us:=[]) F hr hb hd hx I .nil h)
end
structure qan (N P:List Str) (sc:Scope):Prop where
 kind:sc.kind=.function
 co:sc.isCoroutine=false
 gen:sc.isGenerator=false
 nd:N.Nodup
 pre:N.take P.length=P
 par:∀ x ∈ P,sc.names.lookup x=some .local∨sc.names.lookup x=some .cell
 nofree:∀ y ∈ sc.names,y.2 ≠ .free
theorem qj6 {kindOf:Str→Option NameKind} {x:Str}:∀ {binds:List (Str × Value)} {m:Str→Option Value},(∀ v,(x,v) ∉ binds)→bindL kindOf binds m x=m x
 | [],_,_=>rfl
 | (n,v)::r,m,h=>by
   unfold bindL
   rw[qj6 fun w hw=>h w (List.mem_cons_of_mem _ hw)]
   split
   · have:x ≠ n:=by rintro rfl;exact h v List.mem_cons_self
     simp [this]
   · rfl
theorem qj7 {kindOf:Str→Option NameKind} {x:Str}:∀ {binds:List (Str × Value)} {m:Str→Option Value},(∀ v,(x,v) ∉ binds)→bindC kindOf binds m x=m x
 | [],_,_=>rfl
 | (n,v)::r,m,h=>by
   unfold bindC
   rw[qj7 fun w hw=>h w (List.mem_cons_of_mem _ hw)]
   split
   · rfl
   · have:x ≠ n:=by rintro rfl;exact h v List.mem_cons_self
     simp [this]
theorem qj8 {kindOf:Str→Option NameKind} {x:Str} {v:Value}:∀ {P:List Str} {vs:List Value} {i:Nat} {m:Str→Option Value},P.Nodup→P[i]? =some x→vs[i]? =some v→kindOf x=some .local →
   bindL kindOf (P.zip vs) m x=some v
 | [],_,_,_,_,h,_,_=>by simp at h
 | _::_,[],_,_,_,_,h,_=>by simp at h
 | p::P,w::vs,0,m,nd,h1,h2,hk=>by
   simp at h1 h2;subst h1;subst h2
   show bindL kindOf ((p,w)::P.zip vs) m p=_
   unfold bindL
   rw[qj6 fun v hv=>(List.nodup_cons.mp nd).1 (List.of_mem_zip hv).1,if_pos hk]
   simp
 | p::P,w::vs,i+1,m,nd,h1,h2,hk=>by
   show bindL kindOf ((p,w)::P.zip vs) m x=_
   unfold bindL
   exact qj8 (i:=i) (List.nodup_cons.mp nd).2 (by simpa using h1) (by simpa using h2) hk
theorem qj9 {kindOf:Str→Option NameKind} {x:Str} {v:Value}:∀ {P:List Str} {vs:List Value} {i:Nat} {m:Str→Option Value},P.Nodup→P[i]? =some x→vs[i]? =some v→kindOf x ≠ some .local →
   bindC kindOf (P.zip vs) m x=some v
 | [],_,_,_,_,h,_,_=>by simp at h
 | _::_,[],_,_,_,_,h,_=>by simp at h
 | p::P,w::vs,0,m,nd,h1,h2,hk=>by
   simp at h1 h2;subst h1;subst h2
   show bindC kindOf ((p,w)::P.zip vs) m p=_
   unfold bindC
   rw[qj7 fun v hv=>(List.nodup_cons.mp nd).1 (List.of_mem_zip hv).1,if_neg hk]
   simp
 | p::P,w::vs,i+1,m,nd,h1,h2,hk=>by
   show bindC kindOf ((p,w)::P.zip vs) m x=_
   unfold bindC
   exact qj9 (i:=i) (List.nodup_cons.mp nd).2 (by simpa using h1) (by simpa using h2) hk
noncomputable def start (N:List Str) (vs:List V):St:=vs.map some++List.replicate (N.length - vs.length) none
noncomputable def qa8 (CX:CXT) (P:Program) (w:World) (K:PySem.W.Frag) (mg:Str→Option Value) (base:Heap) (N:List Str) (qual:Str) (scope:Scope) (f:Addr) (cd:Value) (A:Around) (outer:List Env) (s:Shared) (H:Hp) (E:XK):Cx where
 prog:=P
 w:=w
 K:=K
 mg:=mg
 base:=base
 A:=A.deeper (envOfC qual scope s.heap.objs.size f cd)
 N:=N
 s₀:=s
 H₀:=H
 env:=envOfC qual scope s.heap.objs.size f cd
 outer:=outer
 stack:=envOfC qual scope s.heap.objs.size f cd::outer
 ex:=[]
 calm:=true
 fn:=fun _=>true
 pn:=[]
 xe:=fun e s'=>wpAny (model P w) (A.deeper (envOfC qual scope s.heap.objs.size f cd)) (leaving (envOfC qual scope s.heap.objs.size f cd) e) (fun _ s''=>CX outer H s E e s'') (fun e' s''=>CX outer H s E e' s'') s'
theorem qmv {sc:Scope} {n:Nat} {x:Str} (h:sc.names.lookup x=some .cell):∃ c,(cellsFrom n sc.names []).lookup x=some c:=by
 have q:=PySem.W.cellsFrom_some sc.names n [] (.inl h)
 exact Option.isSome_iff_exists.mp q
theorem qrc {CX:CXT} {P:Program} {w:World} {K:PySem.W.Frag} {mg:Str→Option Value} {base:Heap} {N ps:List Str} {qual:Str} {scope:Scope} {f:Addr} {cd:Value} {A:Around} {outer:List Env} {s s1:Shared} {H:Hp} {E:XK} {us:List Value} {vs:List V}
   (S:qan N ps scope) (hd:A.handled=none) (e0:qo1 P w K mg base A outer s H) (hl:vs.length=ps.length) (r:Vals vs us)
   (x:InCallC s s.heap.objs.size (bindL (envOfC qual scope s.heap.objs.size f cd).kindOf (ps.zip us) fun _=>none) (cellsFrom (s.heap.objs.size+1) scope.names []) (bindC (envOfC qual scope s.heap.objs.size f cd).kindOf (ps.zip us) fun _=>none) s1) :
   Inv (qa8 CX P w K mg base N qual scope f cd A outer s H E) [] (start N vs) H s1:=by
 have hpl:ps.length≤N.length:=by have:=congrArg List.length S.pre;rw[List.length_take]at this;omega
 obtain ⟨h1,tk,rfl,hk⟩:=x.done
 have noA:∀ b:Addr,b ∉ (qa8 CX P w K mg base N qual scope f cd A outer s H E).ex:=fun b z=>absurd (show b ∈ ([]:List Addr) from z) (by simp)
 refine⟨⟨e0.mod,S.kind,rfl,rfl,Nat.le_refl _,fun y z c h1 h2=> ?_,fun y hy=> ?_,fun y c _ h=> ?_,fun _=>hd,Around.frames_deeper e0.frames,.inr ⟨rfl,rfl⟩,fun b z=>absurd z (noA b),e0.bs,e0.bsz,fun b _ _=>noA b,fun b z=>absurd z (noA b),e0.funs,e0.frf⟩,
   rfl,e0.bare,Un.kept hk,⟨_,x.toInCall.ns,fun i y v h1 h2 h3=> ?_⟩,fun y c h=>⟨_,x.cell y c h⟩,e0.hok.fresh (Nat.le_refl _),fun y c h=> ?_,fun p hp=>absurd (show p ∈ ([]:List (Addr × Obj)) from hp) (by simp),e0.hok.kept hk,?_⟩
 · exact name_of_addr x.apart (PySem.mem_of_lookup h1) (PySem.mem_of_lookup h2)
 · have hy:scope.names.lookup y=some .cell∨scope.names.lookup y=some .free:=hy
   rcases hy with hy | hy
   · exact qmv hy
   · exact absurd rfl (S.nofree _ (PySem.mem_of_lookup hy))
 · exact Nat.le_of_lt (x.above y c (PySem.mem_of_lookup h))
 · have hi:i < vs.length:=by
     unfold start at h2
     by_cases hi:i < vs.length
     · exact hi
     · rw[List.getElem?_append_right (by simpa using hi)]at h2
       rw[List.getElem?_replicate]at h2
       split at h2 <;> cases h2
   have ha:vs[i]? =some v:=by
     unfold start at h2
     rw[List.getElem?_append_left (by simpa using hi),List.getElem?_map]at h2
     cases e:vs[i]? with
     | none=>rw[e]at h2;cases h2
     | some a=>rw[e]at h2;cases h2;rfl
   obtain ⟨u,hu,rv⟩:=r.get ha
   have hp:ps[i]? =some y:=by
     rw[← S.pre,List.getElem?_take_of_lt (by omega)];exact h1
   have ndP:ps.Nodup:=by rw[← S.pre];exact S.nd.sublist (List.take_sublist _ _)
   refine⟨u,rv,?_⟩
   rcases S.par y (List.mem_of_getElem? hp)with k | k
   · exact .inl ⟨k,qj8 ndP hp hu k⟩
   · obtain ⟨c,e⟩:=qmv (n:=s.heap.objs.size+1) k
     refine .inr ⟨.inl k,c,e,?_⟩
     have q:=x.cell y c e
     rw[qj9 ndP hp hu (by show scope.names.lookup y ≠ _;rw[k];decide)]at q
     exact q
 · exact e0.hok.fresh (Nat.le_of_lt (x.above y c (PySem.mem_of_lookup h)))
 · unfold start
   show _=N.length
   rw[List.length_append,List.length_map,List.length_replicate]
   omega
theorem qqb {CX:CXT} {P:Program} {w:World} {K:PySem.W.Frag} {mg:Str→Option Value} {base:Heap} {k:Nat} {f:Addr} {name qual:Str} {params:Arguments} {body:List Stmt} {scope:Scope} {dV kV doc pm cdv ct oc:Value} {an od:Option Addr}
   {osl:Array (Option Value)} {N ps:List Str} {sp:Sp} (lk:K.lookup f=some ⟨oc,od,.func (PySem.W.fnOf name qual params body scope dV kV doc pm an cdv ct),osl⟩) (hcd:PySem.W.codeIn K cdv qual=true) (S:qan N ps scope)
   (len:∀ vs H Q E,sp vs H Q E→vs.length=ps.length)
   (hbody:∀ (A:Around) (outer:List Env) (s:Shared) (H:Hp) (vs:List V) (Q:VK) (E:XK),qaw k (A.deeper (envOfC qual scope s.heap.objs.size f cdv))→sp vs H Q E →
     ∃ t,PSs (qa8 CX P w K mg base N qual scope f cdv A outer s H E) body t∧t { nx:=fun _ H'=>Q .non H',rt:=Q } (start N vs) H) :
   qay P w K mg base CX (k+1) f (PySem.W.fnOf name qual params body scope dV kV doc pm an cdv ct) ps sp:=by
 refine⟨len,fun A outer s H args us vs Q E hr e0 hb r hsp=> ?_⟩
 have hl:=len _ _ _ _ hsp
 have KX:K.In s.heap:=e0.mod.kin.keeps fun b o e=>(e0.bs b o e).1
 have lim:s.heap.NoLimit:=e0.mod.nolimit.keeps fun b o e=>(e0.bs b o e).1
 have hkind:∀ y ∈ ps.zip us,scope.names.lookup y.1=some .local∨(scope.names.lookup y.1=some .cell∧((cellsFrom (s.heap.objs.size+1) scope.names []).lookup y.1).isSome=true):=fun ⟨n,v⟩ hy=>by
   rcases S.par n (List.of_mem_zip hy).1 with q | q
   · exact .inl q
   · exact .inr ⟨q,PySem.W.cellsFrom_some _ _ _ (.inl q)⟩
 refine codeAny_call_function hr.depth (KX _ _ lk) rfl S.co S.gen rfl (PySem.W.codeRec_of KX hcd) (hb _ _ _ _ ?_)
 refine wpAny_newFunctionEnv_cells S.kind hkind fun env he s1 x=> ?_
 subst he
 refine⟨lim.keeps x.toInCall.keep,codeAny_func ?_⟩
 obtain ⟨t,ht,hq⟩:=hbody A outer s H vs Q E (hr.deeper _) hsp
 have I:Inv (qa8 CX P w K mg base N qual scope f cdv A outer s H E) [] (start N vs) H s1:=qrc S hr.hd e0 hl r x
 refine wpAny_mono (ht [] s1 (start N vs) H _ I hq) (fun fl s' hs=> ?_) fun e s' hs=>hs
 have fin:∀ {σ':St} {H':Hp} {v:V} {u:Value},Inv (qa8 CX P w K mg base N qual scope f cdv A outer s H E) [] σ' H' s'→RelV v u→Q v H'→CE outer P w H s Q u s' :=
   fun {σ' H' v u} J rv q=>⟨v,H',J.os,J.bare,J.base,J.hok,rv,q⟩
 cases fl with
 | ret u =>
   obtain ⟨v,σ',H',J,rv,q⟩:=hs
   exact fin J rv q
 | next =>
   obtain ⟨σ',H',J,q⟩:=hs
   exact fin (v:=V.non) (u:=Value.none) J rfl q
 | brk =>
   obtain ⟨_,_,_,q⟩:=hs
   exact False.elim q
 | cont =>
   obtain ⟨_,_,_,q⟩:=hs
   exact False.elim q
section
variable {X:Cx} {x:Str} {p pos:Pos} {e:Expr} {es:List Expr} {t:TA} {id T:String} {r:List V→Hp→VK→Prop}
noncomputable def tCB (r:List V→Hp→VK→Prop) (t:TA):TE:=fun σ H Q=>t σ H fun vs H1=>r vs H1 Q
theorem qmw (hc:qbj X (.builtin id) r) (hg:Gl X x) (hm:X.mg x=none) (hv:bootBuiltins x=some (.builtin id)) (ha:PA X (e::es) t) (hn:x ≠ "__name__":=by decide) (hdb:(x==("__debug__":Str))=false:=by decide)
   (he:starEach (e::es) X.env=(false,eval e X.env)::starEach es X.env:=by rfl) (hpl:(backTo pos (starEach es X.env)).any (·.1)=false:=by rfl):PE X (.Call (.Name x p) (e::es) [] pos) (tCB r t):=by
 intro pins s σ H Q I h
 refine wpAny_Call_Name_kw (qfy I hg hm hv ?_ hn hdb)
 exact PyProof.Rows.callWith_builtin1 (thn (ha pos pins s σ H _ I h) fun us s1 ⟨vs,H1,I1,r1,q1⟩=>hc pins s1 σ H1 vs us Q I1 r1 q1) he hpl
theorem qka (hc:qbj X (.type T) r) (hg:Gl X x) (hm:X.mg x=none) (hv:bootBuiltins x=some (.type T)) (ha:PA X (e::es) t) (hn:x ≠ "__name__":=by decide) (hdb:(x==("__debug__":Str))=false:=by decide)
   (he:starEach (e::es) X.env=(false,eval e X.env)::starEach es X.env:=by rfl) (hpl:(backTo pos (starEach es X.env)).any (·.1)=false:=by rfl):PE X (.Call (.Name x p) (e::es) [] pos) (tCB r t):=by
 intro pins s σ H Q I h
 refine wpAny_Call_Name_kw (qfy I hg hm hv ?_ hn hdb)
 exact PyProof.Rows.callWith_type1 (thn (ha pos pins s σ H _ I h) fun us s1 ⟨vs,H1,I1,r1,q1⟩=>hc pins s1 σ H1 vs us Q I1 r1 q1) he hpl
end
end L2
namespace HT
open PySem PyProof.Rows
section
variable {prog:Program} {w:World} {A:Around} {E:Value→Shared→Prop} {s:Shared}
theorem cat_tup {t b:Addr} {vs ws:List Value} {Q:Value→Shared→Prop} (ht:IsTup s.heap t vs.toArray) (hb:IsTup s.heap b ws.toArray) (hv:vs ≠ [])
   (h1:ws=[]→Q (.ref t) s) (h2:ws ≠ []→Q (.ref s.heap.objs.size) { s with heap:=s.heap.push { cls:=.type "tuple",data:=.seq (vs++ws).toArray } })
   (hsz:vs.length+ws.length≤sizeLine):wpAny (model prog w) A (binaryOp .Add (.ref t) (.ref b)) Q E s:=by
 obtain ⟨⟨cls,dd,data,sl⟩,ho,hc,n,hd⟩:=id ht
 obtain ⟨⟨cls2,dd2,data2,sl2⟩,ho2,hc2,n2,hd2⟩:=id hb
 simp only at hc hd hc2 hd2
 subst hc hd hc2 hd2
 have e:vs.toArray++ws.toArray=(vs++ws).toArray:=by simp
 by_cases hw:ws=[]
 · exact concat_meets ⟨_,ho,rfl⟩ ⟨_,ho2,rfl⟩ noFill_tuple_add seq_tuple_add PySem.F.slot_tuple_add PySem.F.entry_tuple_add (PySem.F.args_tuple_add_2 _ _)
     (tuple_addW1 t b vs.toArray ws.toArray n n2 dd dd2 sl sl2 (by simpa using hv) (by simp [hw])) ⟨ho,ho2,h1 hw⟩
 · refine concat_meets ⟨_,ho,rfl⟩ ⟨_,ho2,rfl⟩ noFill_tuple_add seq_tuple_add PySem.F.slot_tuple_add PySem.F.entry_tuple_add (PySem.F.args_tuple_add_2 _ _)
     (tuple_addW2 t b vs.toArray ws.toArray n n2 dd dd2 sl sl2 (by simpa using hv) (by simpa using hw) (by rw[List.size_toArray,List.size_toArray];exact hsz)) ⟨ho,ho2,?_⟩
   rw[e]
   exact h2 hw
noncomputable def sIx (n d:Nat):Option Int→Nat
 | none=>d
 | some v=>if v < 0 then (v+(n:Int)).toNat else min v.toNat n
theorem sIx_none (n d:Nat):sIx n d none=d:=rfl
theorem sIx_nat (n d k:Nat):sIx n d (some (k:Int))=min k n:=by
 show (if (k:Int) < 0 then ((k:Int)+(n:Int)).toNat else min (k:Int).toNat n)=min k n
 rw[if_neg (by omega),Int.toNat_natCast]
theorem qz2 (n d:Nat) (hd:d≤n) (o:Option Int):sIx n d o≤n:=by
 cases o with
 | none=>exact hd
 | some v =>
   show (if v < 0 then (v+(n:Int)).toNat else min v.toNat n)≤n
   by_cases hv:v < 0
   · rw[if_pos hv];omega
   · rw[if_neg hv];exact Nat.min_le_right _ _
theorem qqc (v:Int) (n d:Nat):(if v < 0 then max (v+(n:Int)) 0 else min v (n:Int))=((sIx n d (some v):Nat):Int):=by
 show (if v < 0 then max (v+(n:Int)) 0 else min v (n:Int))=(((if v < 0 then (v+(n:Int)).toNat else min v.toNat n):Nat):Int)
 by_cases hv:v < 0
 · simp only [if_pos hv];omega
 · simp only [if_neg hv];omega
theorem qo3 (lo hi:Option Int) (n:Nat):Builtin.Slice.sliceAdjust lo hi 1 (n:Int)=(((sIx n 0 lo:Nat):Int),((sIx n n hi:Nat):Int)):=by
 have h1:¬ ((1:Int) < 0):=by omega
 unfold Builtin.Slice.sliceAdjust
 simp only [h1,if_false]
 refine Prod.ext ?_ ?_
 · cases lo with
   | none=>rfl
   | some v=>exact qqc v n 0
 · cases hi with
   | none=>rfl
   | some v=>exact qqc v n n
theorem qo4 (i j:Nat):Builtin.Slice.slicePlaces (i:Int) (j:Int) 1=j - i:=by
 unfold Builtin.Slice.slicePlaces
 have h1:(1:Int) > 0:=by omega
 simp only [h1,if_true,Int.ediv_one]
 split <;> omega
theorem qh3 {v:Value} {o:Option Int} {Q:Option Int→Shared→Prop} (p:IsPart v o) (h:Q o s):wpAny (model prog w) A (Builtin.Slice.slicePartIndex v) Q E s:=by
 cases p with
 | none=>exact slicePart_none h
 | int i t=>exact slicePart_int h
theorem qfz {sl:Addr} {vl vu:Value} {lo hi:Option Int} {n:Nat} {Q:Int × Int × Nat→Shared→Prop} (hs:s.heap.IsSliceOf sl vl vu .none) (pl:IsPart vl lo) (pu:IsPart vu hi)
   (h:Q (((sIx n 0 lo:Nat):Int),1,sIx n n hi - sIx n 0 lo) s):wpAny (model prog w) A (Builtin.Slice.sliceApplied (.ref sl) (pure (n:Int))) Q E s:=by
 obtain ⟨os,hos,hcs,hds⟩:=id hs
 unfold Builtin.Slice.sliceApplied Builtin.Slice.sliceFields
 refine wpAny_bind (wpAny_bind (wpAny_field hos hds (x:=vl) rfl (wpAny_bind (wpAny_field hos hds (x:=vu) rfl (wpAny_bind (wpAny_field hos hds (x:=.none) rfl (wpAny_pure ?_)))))))
 refine wpAny_bind (slicePart_none ?_)
 show wpAny _ _ (if ((1:Int)==0)=true then _ else _) _ _ s
 rw[if_neg (by decide)]
 refine wpAny_bind (qh3 pl (wpAny_bind (qh3 pu (wpAny_bind (wpAny_pure ?_)))))
 show wpAny _ _ (match Builtin.Slice.sliceAdjust lo hi 1 (n:Int)with | (lo,hi)=>pure (lo,(1:Int),Builtin.Slice.slicePlaces lo hi 1)) _ _ s
 rw[qo3 lo hi n]
 show wpAny _ _ (pure (((sIx n 0 lo:Nat):Int),(1:Int),Builtin.Slice.slicePlaces ((sIx n 0 lo:Nat):Int) ((sIx n n hi:Nat):Int) 1)) _ _ s
 rw[qo4]
 exact wpAny_pure h
theorem qs0 (xs:Array Value) (i k:Nat):((List.range k).filterMap fun (m:Nat)=>xs[((i:Int)+(m:Int) * 1).toNat]?).toArray=((xs.toList.drop i).take k).toArray:=by
 have e:(fun (m:Nat)=>xs[((i:Int)+(m:Int) * 1).toNat]?)=fun m=>xs[i+m]? :=by
   funext m
   have:((i:Int)+(m:Int) * 1).toNat=i+m:=by omega
   rw[this]
 rw[e]
 have:=pick_run xs i k
 rw[List.filterMap_map]at this
 have e2:((fun x=>xs[x]?) ∘ fun x=>i+x)=fun m=>xs[i+m]? :=rfl
 rw[e2]at this
 rw[this]
theorem getItem_tuple_cut {t sl:Addr} {items:Array Value} {vl vu:Value} {lo hi:Option Int} {Q:Value→Shared→Prop} (ht:IsTup s.heap t items) (hs:s.heap.IsSliceOf sl vl vu .none) (pl:IsPart vl lo) (pu:IsPart vu hi)
   (hw:¬ (sIx items.size 0 lo=0∧sIx items.size items.size hi=items.size))
   (h:Q (.ref s.heap.objs.size) { s with heap:=s.heap.push { cls:=.type "tuple",data:=.seq ((items.toList.drop (sIx items.size 0 lo)).take (sIx items.size items.size hi - sIx items.size 0 lo)).toArray } })
   (hsz:items.size≤sizeLine):wpAny (model prog w) A (getItem (.ref t) (.ref sl)) Q E s:=by
 have htake:sizeOk (.seq ((items.toList.drop (sIx items.size 0 lo)).take (sIx items.size items.size hi - sIx items.size 0 lo)).toArray):=by
   show ((items.toList.drop (sIx items.size 0 lo)).take (sIx items.size items.size hi - sIx items.size 0 lo)).toArray.size≤sizeLine
   rw[List.size_toArray,List.length_take,List.length_drop,Array.length_toList]
   omega
 have hj:sIx items.size items.size hi≤items.size:=qz2 _ _ (Nat.le_refl _) hi
 obtain ⟨os,hos,hcs,hds⟩:=id hs
 have hTs:s.TypeIs (.ref sl) "slice":=⟨os,hos,hcs⟩
 unfold getItem
 try with_reducible refine wpAny_holding ?_
 first | refine wpAny_bind (wpAny_pure ?_) | skip
 refine wpAny_bind (wpAny_sequenceKey ht.typeIs (by decide) ?_)
 refine wpAny_bind (wpAny_callSpecial?_slot (name:=Str.ofString "__getitem__") ht.typeIs PyProof.Rows.slot_tuple_getitem
   (wpAny_call_entry PyProof.Rows.slot_tuple_getitem ht.typeIs entry_tuple_getitem ?_ (args_tuple_getitem _ _)))
 show wpAny _ _ (Builtin.Tuple.tupleItemsOf (.ref t) >>= _) _ _ s
 refine wpAny_bind (tupleItemsOf_ ht ?_)
 refine wpAny_bind (wpAny_typeOf hTs ?_)
 rw[if_pos (by decide)]
 refine wpAny_bind (qfz hs pl pu ?_)
 have hno:¬ ((((sIx items.size 0 lo:Nat):Int)==0 && (1:Int)==1 && (sIx items.size items.size hi - sIx items.size 0 lo)==items.size)=true):=by
   intro q
   rw[Bool.and_eq_true,Bool.and_eq_true]at q
   have q1:((sIx items.size 0 lo:Nat):Int)=0:=eq_of_beq q.1.1
   have q2:sIx items.size items.size hi - sIx items.size 0 lo=items.size:=eq_of_beq q.2
   exact hw ⟨by omega,by omega⟩
 show wpAny _ _ (if (((sIx items.size 0 lo:Nat):Int)==0 && (1:Int)==1 && (sIx items.size items.size hi - sIx items.size 0 lo)==items.size)=true then _ else _) _ _ s
 rw[if_neg hno,qs0]
 first
   | exact wpAny_bind (m:=Builtin.Tuple.tupleExact _) (wpAny_newObj_type (wpAny_pure ⟨_,rfl,wpAny_pure h⟩) htake)
   | exact wpAny_bind (m:=Builtin.Tuple.tupleExact _) (wpAny_newObj_type (wpAny_bind (wpAny_pure (wpAny_pure ⟨_,rfl,wpAny_pure h⟩))) htake)
   | exact wpAny_bind (wpAny_bind (m:=Builtin.Tuple.tupleExact _) (wpAny_newObj_type (wpAny_pure (wpAny_pure ⟨_,rfl,wpAny_pure h⟩)) htake))
   | exact wpAny_bind (wpAny_bind (m:=Builtin.Tuple.tupleExact _) (wpAny_newObj_type (wpAny_pure ⟨_,rfl,wpAny_pure h⟩) htake))
end
end HT
namespace L2
open PySem PySem.Spec PyProof.Rows
noncomputable abbrev TO:=St→Hp→(Option Int→Hp→Prop)→Prop
noncomputable def PO (X:Cx) (e:Option Expr) (t:TO):Prop :=
 ∀ (pins:List (Addr × Obj)) (s:Shared) (σ:St) (H:Hp) (Q:Option Int→Hp→Prop),Inv X pins σ H s→t σ H Q →
   wpAny (model X.prog X.w) X.A (evalPart e X.env) (fun u s'=>∃ o H',Inv X pins σ H' s'∧IsPart u o∧Q o H') X.xe s
noncomputable def qv9:TO:=fun _ H Q=>Q none H
noncomputable def q3a (t:TE):TO:=fun σ H Q=>t σ H fun x H1=>∃ i,x=.int i∧Q (some i) H1
section
variable {X:Cx} {e:Expr} {te:TE} {lo hi:Option Expr} {tl th:TO} {pos p2:Pos}
theorem qqd:PO X none qv9:=by
 intro pins s σ H Q I h
 rw[evalPart_none]
 exact wpAny_pure ⟨none,H,I,.none,h⟩
theorem qqe (h:PE X e te):PO X (some e) (q3a te):=by
 intro pins s σ H Q I hw
 rw[evalPart_some]
 refine thn (h pins s σ H _ I hw) fun u s1 ⟨x,H1,I1,r1,q1⟩=> ?_
 obtain ⟨i,rfl,q⟩:=q1
 obtain ⟨t,rfl⟩:=r1
 exact⟨some i,H1,I1,.int i t,q⟩
noncomputable def SlR (X:Cx) (r:V→Option Int→Option Int→Hp→VK→Prop):Prop :=
 ∀ (pins:List (Addr × Obj)) (s:Shared) (σ:St) (H:Hp) (x:V) (v vl vu:Value) (lo hi:Option Int) (sl:Addr) (Q:VK),Inv X pins σ H s→RelV x v→s.heap.IsSliceOf sl vl vu .none→IsPart vl lo→IsPart vu hi→r x lo hi H Q →
   ∃ T id,typeLookup (.type T) "__getitem__"=pure (some (.builtin id))∧s.TypeIs v T∧wpAny (model X.prog X.w) X.A (getItem v (.ref sl)) (EP X pins σ Q) X.xe s
theorem SlR.or {r r':V→Option Int→Option Int→Hp→VK→Prop} (h:SlR X r) (h':SlR X r'):SlR X (fun x lo hi H Q=>r x lo hi H Q∨r' x lo hi H Q):=by
 intro pins s σ H x v vl vu lo hi sl Q I rx hs pl pu q
 rcases q with q | q
 · exact h pins s σ H x v vl vu lo hi sl Q I rx hs pl pu q
 · exact h' pins s σ H x v vl vu lo hi sl Q I rx hs pl pu q
noncomputable def tSl (r:V→Option Int→Option Int→Hp→VK→Prop) (te:TE) (tl th:TO):TE:=fun σ H Q=>te σ H fun x H1=>tl σ H1 fun l H2=>th σ H2 fun u H3=>r x l u H3 Q
theorem qmx {r:V→Option Int→Option Int→Hp→VK→Prop} (hr:SlR X r) (he:PE X e te) (hl:PO X lo tl) (hu:PO X hi th):PE X (.Subscript e (.Slice lo hi none p2) pos) (tSl r te tl th):=by
 intro pins s σ H Q I h
 refine Subscript_ (thn (he pins s σ H _ I h) fun v s1 ⟨x,H1,I1,r1,q1⟩=> ?_)
 refine wpAny_Slice (thn (hl pins s1 σ H1 _ I1 q1) fun vl s2 ⟨l,H2,I2,pl,q2⟩=>thn (hu pins s2 σ H2 _ I2 q2) fun vu s3 ⟨u,H3,I3,pu,q3⟩=> ?_)
 rw[evalPart_none]
 refine wpAny_pure ?_
 have I4:Inv X pins σ H3 { s3 with heap:=s3.heap.push { cls:=.type "slice",data:=.fields #[vl,vu,.none] } }:=I3.kept (t':=s3.toks) fun b ob q=>Heap.get?_push_of_some _ q
 obtain ⟨T,id,hT,ht,hg⟩:=hr pins { s3 with heap:=s3.heap.push { cls:=.type "slice",data:=.fields #[vl,vu,.none] } } σ H3 x v vl vu l u s3.heap.objs.size Q I4 r1 (Heap.IsSliceOf.new ..) pl pu q3
 show wpAny (model X.prog X.w) X.A (subscriptTail e (.Slice lo hi none p2) v (.ref s3.heap.objs.size)) (EP X pins σ Q) X.xe { s3 with heap:=s3.heap.push { cls:=.type "slice",data:=.fields #[vl,vu,.none] } }
 exact tail_any (ops:=[.ref s3.heap.objs.size,v]) ht hT hg (by with_unfolding_all rfl)
noncomputable def qg7 (xs:List V) (lo hi:Option Int):List V:=(xs.drop (HT.sIx xs.length 0 lo)).take (HT.sIx xs.length xs.length hi - HT.sIx xs.length 0 lo)
theorem qgq (xs:List V) (lo hi:Option Int):(qg7 xs lo hi).length≤xs.length:=by
 unfold qg7
 rw[List.length_take,List.length_drop]
 omega
noncomputable def q6e (K:PySem.W.Frag):V→Option Int→Option Int→Hp→VK→Prop:=fun x lo hi H Q=>∃ a xs,x=.ref a∧SqT K H a xs ∧
 ¬ (HT.sIx xs.length 0 lo=0∧HT.sIx xs.length xs.length hi=xs.length)∧∀ p,H p=none→Q (.ref p) (upd H p (.tup (qg7 xs lo hi)))
theorem qz3:SlR X (q6e X.K):=by
 intro pins s σ H x v vl vu lo hi sl Q I rx hs pl pu h
 obtain ⟨a,xs,rfl,hx,hw,q⟩:=h
 cases rx
 obtain ⟨its,r,ht,hz⟩:=I.tuple hx
 have hlen:its.toArray.size=xs.length:=by rw[List.size_toArray];exact r.length.symm
 refine⟨"tuple",_,PyProof.Rows.slot_tuple_getitem.lookup,ht.typeIs,?_⟩
 refine HT.getItem_tuple_cut ht hs pl pu (by rw[hlen];exact hw) ?_ (by rw[hlen];exact hz)
 rw[hlen]
 refine⟨.ref s.heap.objs.size,_,I.laid (t':=s.toks) (o:=.tup (qg7 xs lo hi)) (fun b ob q=>Heap.get?_push_of_some _ q) (Nat.le_refl _) ?_,rfl,q _ (I.hok.fresh (Nat.le_refl _))⟩
 exact⟨Nat.le_trans (qgq xs lo hi) hz,_,(r.drop (HT.sIx xs.length 0 lo)).take (HT.sIx xs.length xs.length hi - HT.sIx xs.length 0 lo),IsTup.new _ _⟩
noncomputable def q3b (K:PySem.W.Frag):R2:=fun x y H Q=>∃ a b xs ys,x=.ref a∧y=.ref b∧SqT K H a xs∧SqT K H b ys∧xs ≠ []∧xs.length+ys.length≤sizeLine ∧
 (ys=[]→Q (.ref a) H)∧(ys ≠ []→∀ p,H p=none→Q (.ref p) (upd H p (.tup (xs++ys))))
theorem Vals.nil_iff {xs:List V} {us:List Value} (r:Vals xs us):us=[]↔xs=[]:=by
 cases r with
 | nil=>simp
 | cons _ _=>simp
theorem qwa:OpR X (binaryOp .Add) (q3b X.K):=by
 intro pins s σ H x y v u Q I rx ry h
 obtain ⟨a,b,xs,ys,rfl,rfl,ha,hb,hx,hz,q1,q2⟩:=h
 cases rx
 cases ry
 obtain ⟨its,r1,p1,_⟩:=I.tuple ha
 obtain ⟨its2,r2,p2,_⟩:=I.tuple hb
 refine HT.cat_tup p1 p2 (fun z=>hx (r1.nil_iff.mp z)) (fun z=>⟨.ref a,H,I,rfl,q1 (r2.nil_iff.mp z)⟩) (fun z=> ?_) (by rw[← r1.length,← r2.length];exact hz)
 refine⟨.ref s.heap.objs.size,_,I.laid (t':=s.toks) (o:=.tup (xs++ys)) (fun b ob q=>Heap.get?_push_of_some _ q) (Nat.le_refl _) ?_,rfl,q2 (fun w=>z (r2.nil_iff.mpr w)) _ (I.hok.fresh (Nat.le_refl _))⟩
 exact⟨by rw[List.length_append];exact hz,_,r1.append r2,IsTup.new _ _⟩
end
noncomputable def ixN (n:Nat) (i:Int):Option Nat:=if 0≤i then (if i < n then some i.toNat else none)else if -(n:Int)≤i then some (i+n).toNat else none
noncomputable def atI {α:Type} (xs:List α) (i:Int):Option α:=(ixN xs.length i).bind fun j=>xs[j]?
theorem qqf {n:Nat} {i:Int} {j:Nat} (h:ixN n i=some j):seqIndex? i n=some j∧j < n∧ -(n:Int)≤i∧i < n:=by
 unfold ixN at h
 by_cases h0:0≤i
 · rw[if_pos h0]at h
   by_cases h1:i < n
   · rw[if_pos h1]at h
     have e:i.toNat=j:=Option.some.inj h
     exact⟨by rw[seqIndex_of h0 h1,e],by omega,by omega,h1⟩
   · rw[if_neg h1]at h;cases h
 · rw[if_neg h0]at h
   by_cases h1: -(n:Int)≤i
   · rw[if_pos h1]at h
     have e:(i+n).toNat=j:=Option.some.inj h
     exact⟨by rw[seqIndex_neg (by omega) h1,e],by omega,h1,by omega⟩
   · rw[if_neg h1]at h;cases h
theorem qhh {α:Type} {xs:List α} {i:Int} {v:α} (h:atI xs i=some v):∃ j,seqIndex? i xs.length=some j∧xs[j]? =some v∧j < xs.length∧ -(xs.length:Int)≤i∧i < xs.length:=by
 unfold atI at h
 cases e:ixN xs.length i with
 | none=>rw[e]at h;cases h
 | some j =>
   rw[e]at h
   obtain ⟨h1,h2,h3,h4⟩:=qqf e
   exact⟨j,h1,h,h2,h3,h4⟩
theorem qbt {α:Type} {xs:List α} {j:Nat} {v:α} (h:xs[j]? =some v):atI xs (j:Int)=some v:=by
 have hj:j < xs.length:=(List.getElem?_eq_some_iff.mp h).1
 have e:ixN xs.length (j:Int)=some j:=by
   unfold ixN
   rw[if_pos (by omega),if_pos (by omega)];simp
 unfold atI;rw[e];exact h
noncomputable def qk6 (b:Expr):Prop:=∀ o i,subscripted b false o i=operate [o,i] (getItem o i)
noncomputable def IxR (X:Cx) (r:R2):Prop :=
 ∀ (value slice:Expr) (pins:List (Addr × Obj)) (s:Shared) (σ:St) (H:Hp) (x y:V) (v u:Value) (Q:VK),Inv X pins σ H s→RelV x v→RelV y u→r x y H Q →
   subscripted slice false v u=operate [v,u] (getItem v u)→wpAny (model X.prog X.w) X.A (subscriptTail value slice v u) (EP X pins σ Q) X.xe s
noncomputable def MtR (X:Cx) (id:String) (r:V→List V→Hp→VK→Prop):Prop :=
 ∀ (pins:List (Addr × Obj)) (s:Shared) (σ:St) (H:Hp) (x:V) (xs:List V) (v:Value) (us:List Value) (Q:VK),Inv X pins σ H s→RelV x v→Vals xs us→r x xs H Q →
   wpAny (model X.prog X.w) X.A (call (.builtin id) (v::us)) (EP X pins σ Q) X.xe s
section
variable {X:Cx} {a b:Expr} {ta tb:TE} {pos:Pos}
theorem IxR.or {r r':R2} (h:IxR X r) (h':IxR X r'):IxR X (fun x y H Q=>r x y H Q∨r' x y H Q):=by
 intro value slice pins s σ H x y v u Q I rx ry q hs
 rcases q with q | q
 · exact h value slice pins s σ H x y v u Q I rx ry q hs
 · exact h' value slice pins s σ H x y v u Q I rx ry q hs
theorem q3c {r:R2} (hr:IxR X r) (ha:PE X a ta) (hb:PE X b tb) (hs:qk6 b):PE X (.Subscript a b pos) (tOp r ta tb):=by
 intro pins s σ H Q I h
 exact Subscript_ (qzq ha hb I h fun v u s2 x y H2 I2 rx ry q=>hr a b pins s2 σ H2 x y v u Q I2 rx ry q (hs _ _))
noncomputable def qz4 (K:PySem.W.Frag):R2:=fun x y H Q=>∃ p xs i v,x=.ref p∧y=.int i∧SqL K H p xs∧atI xs i=some v∧Q v H
noncomputable def q6f (K:PySem.W.Frag):R2:=fun x y H Q=>∃ p xs i v,x=.ref p∧y=.int i∧SqT K H p xs∧atI xs i=some v∧Q v H
noncomputable def q6g:R2:=fun x y H Q=>∃ z i c,x=.str z∧y=.int i∧z.length≤sizeLine∧atI z.cps.toList i=some c∧Q (.str ⟨#[c]⟩) H
theorem qwb:IxR X (qz4 X.K):=by
 intro value slice pins s σ H x y v u Q I rx ry h hs
 obtain ⟨p,xs,i,z,rfl,rfl,hq,he,q⟩:=h
 cases rx
 obtain ⟨t,rfl⟩:=ry
 obtain ⟨its,r,pl,hz⟩:=I.list hq
 obtain ⟨j,h1,h2,h3,h4,h5⟩:=qhh he
 obtain ⟨w,ew,rw'⟩:=r.get h2
 have hl:=r.length
 have hn:=qdn
 have fin:EP X pins σ Q w s:=⟨z,H,I,rw',q⟩
 by_cases h0:0≤i
 · have hj:i.toNat=j:=by
     rw[seqIndex_of h0 h5]at h1
     exact Option.some.inj h1
   exact item_listR pl.isList h0 (by omega) (by rw[hj];simpa using ew) fin hs
 · have hj:(i+(its.toArray.size:Int)).toNat=j:=by
     rw[seqIndex_neg (by omega) h4]at h1
     rw[List.size_toArray,← hl]
     exact Option.some.inj h1
   exact subscriptTail_builtinR (x:=w) pl.isList.typeIs slot_list_getitem.lookup
     (wpAny_getItem_list_neg (Q:=fun r s'=>r=w∧EP X pins σ Q r s') pl.isList (by omega) (by rw[List.size_toArray] <;> omega) (by omega) (by rw[hj];simpa using ew) ⟨rfl,fin⟩) hs
theorem qs1:IxR X (q6f X.K):=by
 intro value slice pins s σ H x y v u Q I rx ry h hs
 obtain ⟨p,xs,i,z,rfl,rfl,hq,he,q⟩:=h
 cases rx
 obtain ⟨t,rfl⟩:=ry
 obtain ⟨its,r,pl,hz⟩:=I.tuple hq
 obtain ⟨j,h1,h2,h3,h4,h5⟩:=qhh he
 obtain ⟨w,ew,rw'⟩:=r.get h2
 have hl:=r.length
 have hn:=qdn
 have fin:EP X pins σ Q w s:=⟨z,H,I,rw',q⟩
 exact subscriptTail_builtinR (x:=w) pl.typeIs slot_tuple_getitem.lookup
   (getItem_tuple (j:=j) (Q:=fun r s'=>r=w∧EP X pins σ Q r s') pl (by omega) (by omega) (by rw[List.size_toArray,← hl];exact h1) (by simpa using ew) ⟨rfl,fin⟩) hs
theorem qz5:IxR X q6g:=by
 intro value slice pins s σ H x y v u Q I rx ry h hs
 obtain ⟨z,i,c,rfl,rfl,hz,he,q⟩:=h
 obtain ⟨t,rfl⟩:=rx
 obtain ⟨t',rfl⟩:=ry
 obtain ⟨j,h1,h2,h3,h4,h5⟩:=qhh he
 have hl:z.cps.toList.length=z.length:=by simp [Str.length]
 rw[hl]at h1 h4 h5
 have hn:=qdn
 exact tail_any (typeIs_str s z t) slot_str_getitem.lookup (getItem_str (c:=c) (by
   have e1:decide (i < -(2 ^ 63:Int))=false:=decide_eq_false (by omega)
   have e2:decide (i ≥ 2 ^ 63)=false:=decide_eq_false (by omega)
   rw[e1,e2,Bool.or_false]) (by rw[h1];simpa using h2) ⟨.str ⟨#[c]⟩,H,I.tok _,⟨_,rfl⟩,q⟩) hs
theorem qo5 (its:List Value) (n j:Nat) (u:Value):Obj.mapSeq (·.setIfInBounds j u) { cls:=.type "list",data:=.seq its.toArray n }={ cls:=.type "list",data:=.seq (its.set j u).toArray n }:=by
 simp [Obj.mapSeq]
theorem Inv.lst {pins:List (Addr × Obj)} {σ:St} {H:Hp} {s:Shared} {p:Addr} {xs:List V} (I:Inv X pins σ H s) (h:H p=some (.lst xs)) :
   ∃ (its:List Value) (n:Nat),Vals xs its∧s.heap.get? p=some { cls:=.type "list",data:=.seq its.toArray n }∧xs.length≤sizeLine:=by
 obtain ⟨z,its,n,r,e⟩:=I.hok p _ h
 exact⟨its,n,r,e,z⟩
theorem Inv.lstUpd {pins:List (Addr × Obj)} {σ:St} {H:Hp} {s:Shared} {p:Addr} {xs ys:List V} {its its':List Value} {n n':Nat} {f:Obj→Obj} (I:Inv X pins σ H s) (h:H p=some (.lst xs))
   (ho:s.heap.get? p=some { cls:=.type "list",data:=.seq its.toArray n }) (hf:f { cls:=.type "list",data:=.seq its.toArray n }={ cls:=.type "list",data:=.seq its'.toArray n' }) (r:Vals ys its') (hz:ys.length≤sizeLine) (t:Nat) :
   Inv X pins σ (upd H p (.lst ys)) { s with heap:=s.heap.update p f,toks:=t }:=by
 have e:(s.heap.update p f).get? p=some { cls:=.type "list",data:=.seq its'.toArray n' }:=by
   rw[Heap.get?_update_self f ho (by rw[hf] <;> rfl),hf]
 refine I.write (x:=p) (e:=p) (by rw[h];trivial) (.inl rfl) (fun b u hb q=>(Heap.get?_update_other _ _ (Ne.symm hb)).trans q) ⟨_,e⟩ ?_
 exact⟨hz,its',n',r,e⟩
noncomputable def qyr:V→V→V→Hp→(Hp→Prop)→Prop:=fun o i v H Q=>∃ p xs k j,o=.ref p∧i=.int k∧H p=some (.lst xs)∧ixN xs.length k=some j∧Q (upd H p (.lst (xs.set j v)))
theorem set_list:qjf X qyr:=by
 intro pins s σ H o i v ov iv u Q I ro ri rv h
 obtain ⟨p,xs,k,j,rfl,rfl,hp,hj,q⟩:=h
 cases ro
 obtain ⟨t,rfl⟩:=ri
 obtain ⟨its,n,r,ho,hz⟩:=I.lst hp
 obtain ⟨h1,h2,h3,h4⟩:=qqf hj
 have hl:=r.length
 have hn:=qdn
 have I':Inv X pins σ (upd H p (.lst (xs.set j v))) { s with heap:=s.heap.update p (Obj.mapSeq (·.setIfInBounds j u)) } :=
   I.lstUpd hp ho (qo5 its n j u) (r.set rv j) (by rw[List.length_set];exact hz) s.toks
 by_cases h0:0≤k
 · have hk:k.toNat=j:=by
     rw[seqIndex_of h0 h4]at h1
     exact Option.some.inj h1
   exact PySem.W.ki_setAt ho h0 (by omega) (by rw[List.size_toArray,← hl];exact h4) (by rw[hk];exact⟨_,I',q⟩)
 · have hk:(k+(its.toArray.size:Int)).toNat=j:=by
     rw[seqIndex_neg (by omega) h3]at h1
     rw[List.size_toArray,← hl]
     exact Option.some.inj h1
   exact PySem.W.ki_setBack ho (by omega) (by rw[List.size_toArray,← hl];exact h3) (by omega) (by rw[hk];exact⟨_,I',q⟩)
theorem qk7 (lo hi:Option Int) (n:Nat):(sliceBounds lo hi none n).1=((HT.sIx n 0 lo:Nat):Int)∧(sliceBounds lo hi none n).2.1=((HT.sIx n n hi:Nat):Int)∧(sliceBounds lo hi none n).2.2=1:=by
 refine⟨?_,?_,rfl⟩
 · cases lo with
   | none=>simp [sliceBounds,HT.sIx]
   | some i =>
     simp only [sliceBounds,HT.sIx,Option.getD_none,show (1:Int) > 0 by decide,if_true]
     by_cases h:i < 0
     · simp only [h,if_true] <;> omega
     · simp only [h,if_false] <;> omega
 · cases hi with
   | none=>simp [sliceBounds,HT.sIx]
   | some i =>
     simp only [sliceBounds,HT.sIx,Option.getD_none,show (1:Int) > 0 by decide,if_true]
     by_cases h:i < 0
     · simp only [h,if_true] <;> omega
     · simp only [h,if_false] <;> omega
theorem qjg (its:List Value) (lo hi:Option Int):slicePick its.toArray lo hi none=((its.drop (HT.sIx its.length 0 lo)).take (HT.sIx its.length its.length hi - HT.sIx its.length 0 lo)).toArray:=by
 obtain ⟨h1,h2,h3⟩:=qk7 lo hi its.toArray.size
 unfold slicePick
 rw[h1,h2,h3]
 simp only [sliceRange_one,pick_run,List.size_toArray] <;> rfl
noncomputable def q3d (K:PySem.W.Frag):V→Option Int→Option Int→Hp→VK→Prop:=fun x lo hi H Q=>∃ a xs,x=.ref a∧SqL K H a xs∧∀ p,H p=none→Q (.ref p) (upd H p (.lst (qg7 xs lo hi)))
theorem qqg:SlR X (q3d X.K):=by
 intro pins s σ H x v vl vu lo hi sl Q I rx hs pl pu h
 obtain ⟨a,xs,rfl,hx,q⟩:=h
 cases rx
 obtain ⟨its,r,ht,hz⟩:=I.list hx
 have hlen:=r.length
 refine⟨"list",_,slot_list_getitem.lookup,ht.isList.typeIs,?_⟩
 refine wpAny_getItem_list_slice ht.isList hs pl pu .none (by simp) ?_ (by rw[List.size_toArray] <;> omega)
 rw[qjg,← hlen]
 refine⟨.ref s.heap.objs.size,_,I.laid (t':=s.toks) (o:=.lst (qg7 xs lo hi)) (fun b ob q=>Heap.get?_push_of_some _ q) (Nat.le_refl _) ?_,rfl,q _ (I.hok.fresh (Nat.le_refl _))⟩
 exact⟨Nat.le_trans (qgq xs lo hi) hz,_,0,(r.drop (HT.sIx xs.length 0 lo)).take (HT.sIx xs.length xs.length hi - HT.sIx xs.length 0 lo),Heap.get?_push_size _ rfl⟩
noncomputable def qkb:V→Bool
 | .non=>true
 | .bl _=>true
 | .int _=>true
 | .str _=>true
 | _=>false
noncomputable def eqV:V→V→Bool
 | .non,.non=>true
 | .bl a,.bl b=>a==b
 | .bl a,.int b=>(if a then 1 else 0)==b
 | .int a,.bl b=>a==(if b then 1 else 0)
 | .int a,.int b=>a==b
 | .str a,.str b=>a==b
 | _,_=>false
theorem qz6 {A:Around} {s:Shared} {y x:V} {u v:Value} (ry:RelV y u) (rx:RelV x v) (fy:qkb y=true) (fx:qkb x=true):SeqAt.EqAt A s u v (eqV y x):=by
 cases y with
 | non =>
   cases ry
   cases x with
   | non=>cases rx;exact SeqAt.EqAt.same _
   | bl b=>cases rx;exact SeqAt.EqAt.none_bool b
   | int b=>obtain ⟨t,rfl⟩:=rx;exact SeqAt.EqAt.none_int b t
   | str b=>obtain ⟨t,rfl⟩:=rx;exact SeqAt.EqAt.none_str b t
   | _=>exact absurd (show false=true from fx) Bool.false_ne_true
 | bl a =>
   cases ry
   cases x with
   | non=>cases rx;exact SeqAt.EqAt.bool_none a
   | bl b=>cases rx;exact SeqAt.EqAt.bool_bool a b
   | int b=>obtain ⟨t,rfl⟩:=rx;exact SeqAt.EqAt.bool_int a b t
   | str b=>obtain ⟨t,rfl⟩:=rx;exact SeqAt.EqAt.bool_str a b t
   | _=>exact absurd (show false=true from fx) Bool.false_ne_true
 | int a =>
   obtain ⟨t',rfl⟩:=ry
   cases x with
   | non=>cases rx;exact SeqAt.EqAt.int_none a t'
   | bl b=>cases rx;exact SeqAt.EqAt.int_bool a t' b
   | int b=>obtain ⟨t,rfl⟩:=rx;exact SeqAt.EqAt.int_int a t' b t
   | str b=>obtain ⟨t,rfl⟩:=rx;exact SeqAt.EqAt.int_str a t' b t
   | _=>exact absurd (show false=true from fx) Bool.false_ne_true
 | str a =>
   obtain ⟨t',rfl⟩:=ry
   cases x with
   | non=>cases rx;exact SeqAt.EqAt.str_none a t'
   | bl b=>cases rx;exact SeqAt.EqAt.str_bool a t' b
   | int b=>obtain ⟨t,rfl⟩:=rx;exact SeqAt.EqAt.str_int a t' b t
   | str b=>obtain ⟨t,rfl⟩:=rx;exact SeqAt.EqAt.str_str a t' b t
   | _=>exact absurd (show false=true from fx) Bool.false_ne_true
 | _=>exact absurd (show false=true from fy) Bool.false_ne_true
theorem qe8:qbj X (.builtin "len") (fun xs H Q=>∃ p ys,xs=[.ref p]∧(SqL X.K H p ys∨SqT X.K H p ys)∧Q (.int ys.length) H):=by
 intro pins s σ H xs us Q I r h
 obtain ⟨p,ys,rfl,hq,q⟩:=h
 obtain ⟨u,rfl,rx⟩:=vals1 r
 cases rx
 have hn:=qdn
 rcases hq with hq | hq
 · obtain ⟨its,r',pl,hz⟩:=I.list hq
   have hlen:=r'.length
   exact Calls.call_len_list pl.isList (by simp only [List.size_toArray] <;> omega) ⟨.int ys.length,H,I.tok _,⟨s.toks+1,by rw[List.size_toArray,hlen]⟩,q⟩
 · obtain ⟨its,r',pl,hz⟩:=I.tuple hq
   have hlen:=r'.length
   exact len_tuple pl (by simp only [List.size_toArray] <;> omega) ⟨.int ys.length,H,I.tok _,⟨s.toks+1,by rw[List.size_toArray,hlen]⟩,q⟩
theorem qk8:qbj X (.builtin "len") (fun xs H Q=>∃ z,xs=[.str z]∧z.length≤sizeLine∧Q (.int z.length) H):=by
 intro pins s σ H xs us Q I r h
 obtain ⟨z,rfl,hz,q⟩:=h
 obtain ⟨u,rfl,t,rfl⟩:=vals1 r
 have hn:=qdn
 exact len_str (by omega) ⟨.int z.length,H,I.tok _,⟨_,rfl⟩,q⟩
theorem qbj.or {f:Value} {r r':List V→Hp→VK→Prop} (h:qbj X f r) (h':qbj X f r'):qbj X f (fun xs H Q=>r xs H Q∨r' xs H Q):=by
 intro pins s σ H xs us Q I rs q
 rcases q with q | q
 · exact h pins s σ H xs us Q I rs q
 · exact h' pins s σ H xs us Q I rs q
theorem qe9:qbj X (.type "list") (fun xs H Q=>∃ p ys,xs=[.ref p]∧(SqL X.K H p ys∨SqT X.K H p ys)∧∀ l,H l=none→Q (.ref l) (upd H l (.lst ys))):=by
 intro pins s σ H xs us Q I r h
 obtain ⟨p,ys,rfl,hq,q⟩:=h
 obtain ⟨u,rfl,rx⟩:=vals1 r
 cases rx
 have fin:∀ (its:List Value),Vals ys its→ys.length≤sizeLine→∀ (h':Heap) (c':Nat),(∀ b o',s.heap.get? b=some o'→h'.get? b=some o') →
     h'.get? s.heap.objs.size=some { cls:=.type "list",dict:=none,data:=.seq its.toArray c',slots:= #[] }→EP X pins σ Q (.ref s.heap.objs.size) { s with heap:=h' }:=fun its r' hz h' c' kp e =>
   ⟨.ref s.heap.objs.size,_,I.laid (t':=s.toks) kp (Nat.le_refl _) (show qad X.prog X.w _ h' _ (.lst ys) from ⟨hz,its,c',r',e⟩),rfl,q _ (I.hok.fresh (Nat.le_refl _))⟩
 rcases hq with hq | hq
 · obtain ⟨its,r',pl,hz⟩:=I.list hq
   have hlen:=r'.length
   obtain ⟨o,ho,hc,n,hd⟩:=pl.isList
   exact call_list_seq p (.inl rfl) ho hc hd (fun h' c' kp e=>fin its r' hz h' c' kp e) (by simp only [List.size_toArray] <;> omega)
 · obtain ⟨its,r',pl,hz⟩:=I.tuple hq
   have hlen:=r'.length
   obtain ⟨o,ho,hc,n,hd⟩:=pl
   exact call_list_seq p (.inr rfl) ho hc hd (fun h' c' kp e=>fin its r' hz h' c' kp e) (by simp only [List.size_toArray] <;> omega)
theorem qjh:qbj X (.type "tuple") (fun xs H Q=>∃ p ys,xs=[.ref p]∧((SqL X.K H p ys∧∀ l,H l=none→Q (.ref l) (upd H l (.tup ys)))∨(SqT X.K H p ys∧Q (.ref p) H))):=by
 intro pins s σ H xs us Q I r h
 obtain ⟨p,ys,rfl,h⟩:=h
 obtain ⟨u,rfl,rx⟩:=vals1 r
 cases rx
 rcases h with ⟨hq,q⟩ | ⟨hq,q⟩
 · obtain ⟨its,r',pl,hz⟩:=I.list hq
   have hlen:=r'.length
   refine call_tuple_list pl.isList (fun h' kp=> ?_) (by simp only [List.size_toArray] <;> omega)
   have I1:Inv X pins σ H { s with heap:=h' }:=I.kept (t':=s.toks) kp
   have I2:Inv X pins σ (upd H h'.objs.size (.tup ys)) { s with heap:=h'.push { cls:=.type "tuple",data:=.seq its.toArray } } :=
     I1.laid (t':=s.toks) (fun b o e=>Heap.get?_push_of_some _ e) (Nat.le_refl _) (show qad X.prog X.w _ _ _ (.tup ys) from ⟨hz,its,r',IsTup.new _ _⟩)
   exact⟨.ref h'.objs.size,_,I2,rfl,q _ (I1.hok.fresh (Nat.le_refl _))⟩
 · obtain ⟨its,r',pl,hz⟩:=I.tuple hq
   exact call_tuple_same pl ⟨.ref p,H,I,rfl,q⟩
noncomputable def tyV (K:PySem.W.Frag) (T:String) (x:V) (H:Hp):Prop:=match x with
 | .str _=>T="str"
 | .int _=>T="int"
 | .ref p=>(T="list"∧∃ xs,SqL K H p xs)∨(T="tuple"∧∃ o,K.lookup p=some o∧o.cls=.type "tuple"∧o.dict=none) ∨
     (T="dict"∧((∃ kvs,H p=some (.dK kvs))∨∃ kvs,H p=some (.dT kvs)))∨(T="set"∧∃ S n,H p=some (.set S n))
 | _=>False
theorem qs2 {pins:List (Addr × Obj)} {σ:St} {H:Hp} {s:Shared} {T:String} {x:V} {v:Value} (I:Inv X pins σ H s) (r:RelV x v) (ty:tyV X.K T x H) :
   s.TypeIs v T∧∀ a,v=.ref a→∃ ob,s.heap.get? a=some ob∧ob.dict=none:=by
 cases x with
 | str z =>
   obtain ⟨t,rfl⟩:=r
   cases (show T="str" from ty)
   exact⟨typeIs_str s z t,fun _ e=>nomatch e⟩
 | int i =>
   obtain ⟨t,rfl⟩:=r
   cases (show T="int" from ty)
   exact⟨typeIs_int s i t,fun _ e=>nomatch e⟩
 | ref p =>
   cases r
   rcases ty with ⟨rfl,xs,hq⟩ | ⟨rfl,o,hk,hc,hd⟩ | ⟨rfl,hk⟩ | ⟨rfl,S,n,hk⟩
   · obtain ⟨its,_,pl,_⟩:=I.list hq
     refine⟨pl.isList.typeIs,fun a e=> ?_⟩
     cases e
     obtain ⟨o,n,e,c,hd,_⟩:=pl
     exact⟨o,e,hd⟩
   · refine⟨⟨o,I.kIn p o hk,hc⟩,fun a e=> ?_⟩
     cases e
     exact⟨o,I.kIn _ o hk,hd⟩
   · have z:∃ o,s.heap.get? p=some o∧o.ExactDict:=by
       rcases hk with ⟨kvs,hk⟩ | ⟨kvs,hk⟩
       · obtain ⟨_,_,_,_,o,_,_,e,ex,_⟩:=I.hok p _ hk
         exact⟨o,e,ex⟩
       · obtain ⟨_,_,_,_,o,_,_,e,ex,_⟩:=I.hok p _ hk
         exact⟨o,e,ex⟩
     obtain ⟨o,e,ex⟩:=z
     refine⟨⟨o,e,ex.1⟩,fun a e2=> ?_⟩
     cases e2
     exact⟨o,e,ex.2.1⟩
   · obtain ⟨o,_,_,_,e,ex,_⟩:=I.hok p _ hk
     refine⟨⟨o,e,ex.1⟩,fun a e2=> ?_⟩
     cases e2
     exact⟨o,e,ex.2.1⟩
 | _=>exact False.elim ty
noncomputable def q6h (K:PySem.W.Frag) (T:String) (r:V→List V→Hp→VK→Prop) (to:TE):TE:=fun σ H Q=>to σ H fun x H1=>tyV K T x H1∧r x [] H1 Q
noncomputable def tBM (K:PySem.W.Frag) (T:String) (r:V→List V→Hp→VK→Prop) (to:TE) (t:TA):TE:=fun σ H Q=>to σ H fun x H1=>tyV K T x H1∧t σ H1 fun xs H2=>r x xs H2 Q
variable {o e:Expr} {es:List Expr} {to:TE} {t:TA} {name:Str} {apos cpos:Pos} {T id:String} {r:V→List V→Hp→VK→Prop}
theorem qz7 (pa:PlainAttrs T) (slot:Slot T name id) (hty:typeOf (.builtin id)=pure (.type "method_descriptor")) (hm:MtR X id r) (ho:PE X o to)
   (hbase:attributeBase o name X.env (eval o X.env)=eval o X.env:=by rfl) (hline:(apos.endLine==cpos.line)=true:=by rfl):PE X (.Call (.Attribute o name apos) [] [] cpos) (q6h X.K T r to):=by
 intro pins s σ H Q I h
 refine wpAny_Call_method0_late hbase hline (thn (ho pins s σ H _ I h) fun v s1 ⟨x,H1,I1,r1,ty,q1⟩=> ?_)
 obtain ⟨h1,h2⟩:=qs2 I1 r1 ty
 exact⟨T,id,pa,slot,hty,h1,h2,Calls.callWith_builtin rfl (PySem.evalArgs_none (hm pins s1 σ H1 x [] v [] Q I1 r1 .nil q1))⟩
theorem q3e (pa:PlainAttrs T) (slot:Slot T name id) (hty:typeOf (.builtin id)=pure (.type "method_descriptor")) (hm:MtR X id r) (ho:PE X o to) (ha:PA X (e::es) t)
   (hbase:attributeBase o name X.env (eval o X.env)=eval o X.env:=by rfl)
   (hfew:((backTo cpos (starEach (e::es) X.env)).all (fun x=> !x.1) && (backToKw cpos (keywordEach [] X.env)).all (fun x=>x.1.isSome)
     && decide ((e::es).length+([]:List Keyword).length+(if ([]:List Keyword).isEmpty then 0 else 1) < 30))=true:=by rfl)
   (hline:(apos.endLine==cpos.line)=true:=by rfl) (hs:starEach (e::es) X.env=(false,eval e X.env)::starEach es X.env:=by rfl) (hplain:(backTo cpos (starEach es X.env)).any (·.1)=false:=by rfl) :
   PE X (.Call (.Attribute o name apos) (e::es) [] cpos) (tBM X.K T r to t):=by
 intro pins s σ H Q I h
 refine wpAny_Call_method_late hbase hfew hline rfl (thn (ho pins s σ H _ I h) fun v s1 ⟨x,H1,I1,r1,ty,q1⟩=> ?_)
 obtain ⟨h1,h2⟩:=qs2 I1 r1 ty
 refine⟨T,id,pa,slot,hty,h1,h2,?_⟩
 have hA:=ha cpos pins s1 σ H1 _ I1 q1
 rw[hs]at hA ⊢
 refine Calls.callWith_builtin (by show (false || (backTo cpos (starEach es X.env)).any (·.1))=false;rw[hplain] <;> rfl) (Calls.evalArgs_plain ?_)
 exact thn hA fun us s2 ⟨vs,H2,I2,r2,q2⟩=>hm pins s2 σ H2 x vs v us Q I2 r1 r2 q2
end
noncomputable def MtM (X:Cx) (id:String) (r:V→List V→Hp→VK→Prop):Prop :=
 ∀ (pins:List (Addr × Obj)) (s:Shared) (σ:St) (H:Hp) (x:V) (xs:List V) (v:Value) (us:List Value) (Q:VK),Inv X pins σ H s→RelV x v→Vals xs us→r x xs H Q →
   wpAny (model X.prog X.w) X.A (call (.builtin id) (v::us)) (EP X pins σ Q) X.xe s
theorem Vals.one:∀ {x:V} {us:List Value},Vals [x] us→∃ u,us=[u]∧RelV x u
 | _,_,.cons r .nil=>⟨_,rfl,r⟩
theorem Vals.two:∀ {x y:V} {us:List Value},Vals [x,y] us→∃ u v,us=[u,v]∧RelV x u∧RelV y v
 | _,_,_,.cons r (.cons q .nil)=>⟨_,_,rfl,r,q⟩
theorem Vals.rep {xs:List V} {us:List Value} (h:Vals xs us):∀ k:Nat,Vals (List.replicate k xs).flatten (List.replicate k us).flatten
 | 0=>.nil
 | k+1=>by
   rw[List.replicate_succ,List.replicate_succ,List.flatten_cons,List.flatten_cons]
   exact Vals.append h (Vals.rep h k)
theorem foldl_rep (its:List Value):∀ (k:Nat) (acc:List Value),
   List.foldl (fun x1 x2=>x1++x2) acc.toArray (List.replicate k its.toArray)=(acc++(List.replicate k its).flatten).toArray
 | 0,acc=>by simp
 | k +1,acc=>by
   have e:acc.toArray++its.toArray=(acc++its).toArray:=by simp
   have e2:(acc++its)++(List.replicate k its).flatten=acc++(List.replicate (k+1) its).flatten:=by
     rw[List.replicate_succ,List.flatten_cons,List.append_assoc]
   rw[← e2,← foldl_rep its k (acc++its),← e,List.replicate_succ,List.foldl_cons]
section
variable {X:Cx} {pins:List (Addr × Obj)} {σ:St} {H:Hp} {s:Shared} {l b:Addr} {xs ys zs:List V}
theorem Inv.lset {its its':List Value} {n:Nat} {f:Array Value→Array Value} {t':Nat} (I:Inv X pins σ H s) (hH:H l=some (.lst xs))
   (e:s.heap.get? l=some { cls:=.type "list",data:=.seq its.toArray n }) (hf:f its.toArray=its'.toArray) (hv:Vals ys its') (hz:ys.length≤sizeLine) :
   Inv X pins σ (upd H l (.lst ys)) { s with heap:=s.heap.update l (Obj.mapSeq f),toks:=t' }:=by
 have q:=PySem.IsL.update e f
 rw[hf]at q
 refine I.write (x:=l) (e:=l) (by rw[hH];exact trivial) (.inl rfl) (fun b' u hb hu=>(Heap.get?_update_other s.heap (Obj.mapSeq f) (Ne.symm hb)).trans hu) ⟨_,q⟩ ?_
 exact⟨hz,its',_,hv,q⟩
theorem Inv.lnew {its:List Value} {t':Nat} (I:Inv X pins σ H s) (hv:Vals ys its) (hz:ys.length≤sizeLine) :
   Inv X pins σ (upd H s.heap.objs.size (.lst ys)) { s with heap:=s.heap.push { cls:=.type "list",data:=.seq its.toArray },toks:=t' } :=
 I.laid (fun _ _ q=>Heap.get?_push_of_some _ q) (Nat.le_refl _) ⟨hz,its,0,hv,Heap.get?_push_size _ rfl⟩
theorem Inv.fresh (I:Inv X pins σ H s):H s.heap.objs.size=none:=I.hok.fresh (Nat.le_refl _)
theorem Inv.lstM (I:Inv X pins σ H s) (hH:H l=some (.lst xs)):xs.length≤sizeLine∧∃ (its:List Value) (n:Nat),Vals xs its∧xs.length=its.length∧s.heap.get? l=some { cls:=.type "list",data:=.seq its.toArray n }:=by
 obtain ⟨z,its,n,r,e⟩:=I.hok l _ hH
 exact⟨z,its,n,r,r.length,e⟩
theorem qs3 {n:Nat} (h:n≤sizeLine):Builtin.List.listTooLong n=false:=by
 unfold Builtin.List.listTooLong
 exact decide_eq_false (by omega)
end
section
variable {X:Cx}
noncomputable def qwc:V→List V→Hp→VK→Prop:=fun x vs H Q=>∃ l xs y,x=.ref l∧vs=[y]∧H l=some (.lst xs)∧xs.length < sizeLine∧Q .non (upd H l (.lst (xs++[y])))
theorem qrd:MtM X "list.append" qwc:=by
 intro pins s σ H x vs v us Q I rx rv h
 obtain ⟨l,xs,y,rfl,rfl,hH,hz,q⟩:=h
 cases rx
 obtain ⟨u,rfl,ru⟩:=rv.one
 obtain ⟨z,its,n,r,hl,e⟩:=I.lstM hH
 refine call_meets F.slot_list_append ⟨_,e,rfl⟩ F.entry_list_append (F.args_list_append_2 _ _) (PySem.list_append l its.toArray n u (by rw[List.size_toArray];omega)) ⟨e,?_⟩
 refine⟨.non,_,I.lset (its':=its++[u]) hH e (by simp) (r.append (.cons ru .nil)) ?_,rfl,q⟩
 rw[List.length_append,List.length_singleton]
 omega
noncomputable def q6i:R2:=fun x y H Q=>∃ l b xs zs,x=.ref l∧y=.ref b∧H l=some (.lst xs)∧H b=some (.lst zs)∧xs.length+zs.length≤sizeLine∧∀ p,H p=none→Q (.ref p) (upd H p (.lst (xs++zs)))
theorem qz8:OpR X (binaryOp .Add) q6i:=by
 intro pins s σ H x y v u Q I rx ry h
 obtain ⟨l,b,xs,zs,rfl,rfl,hH,hB,hz,q⟩:=h
 cases rx
 cases ry
 obtain ⟨z,its,n,r,hl,e⟩:=I.lstM hH
 obtain ⟨z2,its2,n2,r2,hl2,e2⟩:=I.lstM hB
 refine PySem.P.add_list e e2 ?_ (by rw[List.size_toArray,List.size_toArray];omega)
 have ea:its.toArray++its2.toArray=(its++its2).toArray:=by simp
 rw[ea]
 exact⟨.ref _,_,I.lnew (t':=s.toks) (r.append r2) (by rw[List.length_append];omega),rfl,q _ I.fresh⟩
noncomputable def q6j:R2:=fun x y H Q=>∃ l k xs,x=.ref l∧y=.int k∧H l=some (.lst xs)∧ -(2 ^ 63)≤k∧k < 2 ^ 63∧xs.length * k.toNat≤sizeLine ∧
 ∀ p,H p=none→Q (.ref p) (upd H p (.lst (List.replicate k.toNat xs).flatten))
theorem len_rep {α:Type} (xs:List α) (k:Nat):(List.replicate k xs).flatten.length=k * xs.length:=by
 induction k with
 | zero=>simp
 | succ k ih=>rw[List.replicate_succ,List.flatten_cons,List.length_append,ih,Nat.succ_mul,Nat.add_comm]
theorem qz9:OpR X (binaryOp .Mult) q6j:=by
 intro pins s σ H x y v u Q I rx ry h
 obtain ⟨l,k,xs,rfl,rfl,hH,h1,h2,hz,q⟩:=h
 cases rx
 obtain ⟨t,rfl⟩:=ry
 obtain ⟨z,its,n,r,hl,e⟩:=I.lstM hH
 have hlen:its.toArray.size * k.toNat≤sizeLine:=by rw[List.size_toArray,← hl];exact hz
 have hcap:¬ its.toArray.size * k.toNat > (2 ^ 63 - 1) / 8:=by
   have:(sizeLine:Nat)≤(2 ^ 63 - 1) / 8:=by decide
   omega
 have hfit:¬ (!Builtin.List.listFitsIndex k)=true:=by
   rw[fitsIndex_both h1 h2]
   exact Bool.false_ne_true
 have hlong:¬ Builtin.List.listTooLong (its.toArray.size * k.toNat)=true:=by
   rw[qs3 hlen]
   exact Bool.false_ne_true
 have hnew:List.foldl (fun x1 x2=>x1++x2) #[] (List.replicate (if its.toArray.isEmpty=true then 0 else k.toNat) its.toArray)=(List.replicate k.toNat its).flatten.toArray:=by
   have f0:∀ m:Nat,List.foldl (fun x1 x2=>x1++x2) #[] (List.replicate m its.toArray)=(List.replicate m its).flatten.toArray:=fun m=>by
     have:=foldl_rep its m []
     rw[List.nil_append]at this
     exact this
   rw[f0]
   cases its with
   | nil=>simp
   | cons a r'=>rw[if_neg (by simp)]
 refine wpAny_binaryOp_repeat_ref (T:="list") (U:="int") (by decide) ⟨_,e,rfl⟩ (fun s'=>typeIs_int s' k t) noFill_list_mul F.fills_int_mul F.slot_int_rmul repeat_list F.slot_int_index.lookup
   (call_meets F.slot_int_rmul (typeIs_int s k t) F.entry_int_rmul (F.args_int_rmul_2 _ _) (int___rmul___int_list k t l its.toArray n)
     ⟨e,rfl,⟨_,e,rfl⟩,call_meets F.slot_list_mul ⟨_,e,rfl⟩ F.entry_list_mul (F.args_list_mul_2 _ _) (AutoListH.list___mul___list_int_3 l its.toArray n k t hfit hcap hlong) ⟨e,?_⟩⟩)
 rw[hnew]
 exact⟨.ref _,_,I.lnew (t':=s.toks) (r.rep k.toNat) (by rw[len_rep,Nat.mul_comm];exact hz),rfl,q _ I.fresh⟩
end
end L2
namespace Att
open PySem PySem.W PySem.Calls PyProof.Rows
theorem qg8 {P:Params} {h:Heap}:∀ (ns:List Int) (vs:List Value),WellAll P h vs (ns.map WData.int)→IntsAre vs ns:=by
 intro ns
 induction ns with
 | nil =>
   intro vs w
   rw[List.map_nil]at w
   cases w
   exact .nil
 | cons n ns ih =>
   intro vs w
   rw[List.map_cons]at w
   cases w with
   | cons a b =>
     cases a
     exact .cons _ _ (ih _ b)
theorem qre {l:OpenLaw} {n:Nat} (hn:l.most=some n) {P:Params} {h:Heap} {args:List WData} {vals:List Value}
   (hpre:l.row.toRowW.claim.pre args=true) (hwl:WellAll P h vals args) :
   ∃ a vs ns,vals=[Value.ref a]∧args=[WData.list (ns.map WData.int)]∧h.get? a=some { cls:=.type "list",data:=.seq vs.toArray }∧IntsAre vs ns∧ns.length≤n:=by
 have hsh:WShape.hasAll [] args [.list .int]=true:=(pre_splitW hpre).1
 have hc:l.pre.holds [] { args:=args }=true:=(pre_splitW hpre).2
 obtain ⟨d,r,rfl,h1,h2⟩:=hasAllW_cons hsh
 obtain rfl:=hasAllW_nil h2
 obtain ⟨xs,rfl,h3⟩:=hasW_list h1
 obtain ⟨ns,rfl⟩:=items_int h3
 have hlen:ns.length≤n:=by
   unfold OpenLaw.pre at hc
   have h4:(WTm.not (.lt (.lit (.int (n:Int))) (.len (.arg 0)))).holds [] { args:=[.list (ns.map .int)] }=true:=by
     have h4:=(holds_andW hc).1
     rw[hn]at h4
     exact h4
   have h5:=condW_of h4 (w_not (w_lt w_lit (w_len_list (w_arg rfl))))
   rw[List.length_map]at h5
   refine Nat.le_of_not_lt fun q=> ?_
   have q':(n:Int) < ((ns.length:Nat):Int):=by omega
   first
     | (rw[decide_eq_true q']at h5;exact absurd h5 (by decide))
     | (simp at h5;omega)
 cases hwl with
 | cons w1 w2 =>
   cases w2
   cases w1 with
   | list ho hall=>exact⟨_,_,ns,rfl,rfl,ho,qg8 ns _ hall,hlen⟩
theorem qrf (l:OpenLaw) (args:List WData):l.row.toRowW.claim.post args (.bool true) args=true :=
 postW_of (r:=l.row.toRowW) (X:=(true==true))
   (show WShape.has [] (.bool true) .bool=true by first | rfl | decide | simp [WShape.has,WShape.arms,WShape.armsAll])
   (show (WTm.eq .res (.lit (.bool true))).value [] { args:=args,res:=some (.bool true),after:=args }=some (.bool (true==true)) from w_eq_bool (w_res rfl) w_lit) rfl
theorem attach_call {l:OpenLaw} {n:Nat} {q:Program} {loose:List Str} {XP:(Str→Option Value)→Heap→Prop} {YP:World→Heap→Prop} {d:DefRec}
   (hn:l.most=some n) (hdf:d.params.defaults=[])
   (call:∀ (w:World) (s₀ s₁:Shared) (mg mb:Str→Option Value) (fa:Addr) (o:Obj) (pm cd doc:Value) (a:Addr) (vs:List Value) (ns:List Int),
     Ground q loose [] XP w s₀ mg mb s₁.heap→YP w s₁.heap →
     s₁.heap.get? fa=some o→o.data=.func (docDef d.name d.params d.body d.scope pm cd doc)→s₁.heap.CodeRec cd d.name→mg d.name=some (.ref fa) →
     s₁.heap.get? a=some { cls:=.type "list",data:=.seq vs.toArray }→IntsAre vs ns→ns.length≤n→s₁.gens= #[] →
     codeAny (model l.prog w) callerA (.call (.ref fa) ⟨[.ref a],[]⟩) (fun r s'=>r=.ok (.ret (.bool true))∧OldK s₁.heap s'.heap∧s'.os=s₁.os∧AllBare s'.gens) s₁) :
   WalkO q loose XP YP l.row.toRowW d [] (fun f vs=>PySem.call f vs):=by
 intro w s₀ s₁ mg mb G Y fa o pm cd doc dV kV ho hd hcd hD hmg hg args vals as hpre hlay hrd hwl hlo
 obtain rfl:dV=.none:=Dflts.none hD hdf
 obtain rfl:kV=.none:=Dflts.noKw hD
 obtain ⟨a,vs,ns,rfl,rfl,hobj,hints,hlen⟩:=qre hn hpre hwl
 refine enter_call (codeAny_mono (call w s₀ s₁ mg mb fa o pm cd doc a vs ns G Y ho (fd_plain hd) hcd hmg hobj hints hlen hg) fun r s' hq=> ?_)
 obtain ⟨rfl,h2,h3,h4⟩:=hq
 exact⟨.inl ⟨.bool true,.bool true,[],rfl,fun _=>rfl,.bool true,qrf l _,fun _=>⟨List.Pairwise.nil,fun _ hm=>(nomatch hm)⟩⟩,h2,h3,h4⟩
end Att
namespace L2
open PySem PySem.Spec PyProof.Rows
theorem qkc:∀ {vs:List Value} {ns:List Int},IntsAre vs ns→Vals (ns.map V.int) vs
 | _,_,.nil=>.nil
 | _,_,.cons n t h=>.cons ⟨t,rfl⟩ (qkc h)
noncomputable def q0a (H:Hp):Prop:=∀ b,H b=none∨∃ o xs,H b=some (.frz o (.lst xs))
theorem qs4 {P:Program} {w:World} {K:PySem.W.Frag} {mg mb:Str→Option Value} {CX:CXT} {k:Nat} {fa a:Addr} {fd:FuncData} {x:Str} {sp:Sp} {s₁:Shared} {vs:List Value} {ns:List Int}
   (KX:K.In s₁.heap) (hns:s₁.heap.Ns mainGlobals mg) (hb:s₁.heap.Ns builtinsNs mb) (hbb:∀ x:Str,x ≠ "__name__"→mb x=bootBuiltins x) (hlim:s₁.heap.NoLimit) (hg:s₁.gens= #[])
   (ha:s₁.heap.get? a=some { cls:=.type "list",data:=.seq vs.toArray }) (hi:IntsAre vs ns) (hl:ns.length≤sizeLine) (hr:qaw k callerA)
   (F:∀ base:Heap,K.In base→base.Ns mainGlobals mg→qay P w K mg base CX k fa fd [x] sp) (hbind:∀ (s:Shared) (u:Value),BindsTo s fd ⟨[u],[]⟩ [(x,u)])
   (hsp:∀ H:Hp,q0a H→SqL K H a (ns.map V.int)→sp [.ref a] H (fun v _=>v=.bl true) fun _ _ _=>False)
   (hCX:∀ H e s',CX [] H s₁ (fun _ _ _=>False) e s'→False) :
   codeAny (model P w) callerA (.call (.ref fa) ⟨[.ref a],[]⟩) (fun r s'=>r=.ok (.ret (.bool true))∧OldK s₁.heap s'.heap∧s'.os=s₁.os∧AllBare s'.gens) s₁:=by
 have rv:=qkc hi
 have lenV:=hi.length
 have core :∀ H:Hp,q0a H→SqL K H a (ns.map V.int)→HOk P w H s₁.heap→(∀ b,H b ≠ none→b=a)→(H a ≠ none→K.lookup a=none) →
     codeAny (model P w) callerA (.call (.ref fa) ⟨[.ref a],[]⟩) (fun r s'=>r=.ok (.ret (.bool true))∧OldK s₁.heap s'.heap∧s'.os=s₁.os∧AllBare s'.gens) s₁:=by
   intro H hO hS hok hA hK
   have base_of:∀ {b:Addr} {o:Obj},s₁.heap.get? b=some o→H b=none→(qkz s₁.heap H).get? b=some o:=fun e n=>qsp e n
   have noA:∀ {b:Addr} {o:Obj} {es:Array DictEntry} {ep:Nat},s₁.heap.get? b=some o→o.data=.dict es ep→H b=none:=fun {b o es ep} e d=>by
     cases q:H b with
     | none=>rfl
     | some u =>
       have e':b=a:=hA b (by rw[q];simp)
       subst e'
       rw[ha]at e;cases e
       have d':Data.seq vs.toArray _=Data.dict es ep:=d
       cases d'
   have nsK:∀ {b:Addr} {m:Str→Option Value},s₁.heap.Ns b m→(qkz s₁.heap H).Ns b m:=fun {b m} ⟨o,es,ep,e,d,r⟩=>⟨o,es,ep,base_of e (noA e d),d,r⟩
   have hKb:K.In (qkz s₁.heap H):=fun b o e=>base_of (KX b o e) (by
     cases q:H b with
     | none=>rfl
     | some u =>
       have e':b=a:=hA b (by rw[q];simp)
       subst e'
       rw[hK (by rw[q];simp)]at e;cases e)
   have hM:Mod K mg (qkz s₁.heap H):=⟨hKb,nsK hns,⟨mb,nsK hb,hbb⟩,let ⟨mc,h1,h2⟩:=hlim;⟨mc,nsK h1,h2⟩⟩
   have e0:qo1 P w K mg (qkz s₁.heap H) callerA [] s₁ H:=⟨rfl,hM,fun b o e=>qvv e,Nat.le_of_eq (qq3 _ _),trivial,fun b hb=>absurd (show b ∈ ([]:List Addr) from hb) (by simp),hok,.of_eq hg⟩
   refine codeAny_mono ((F _ hKb (nsK hns)).run callerA [] s₁ H ⟨[.ref a],[]⟩ [.ref a] [.ref a] _ _ hr e0 (hbind s₁ (.ref a)) (.cons rfl .nil) (hsp H hO hS)) fun r s' h=> ?_
   cases r with
   | error e=>exact(hCX H e s' h).elim
   | ok fl =>
     cases fl with
     | next=>exact False.elim h
     | brk=>exact False.elim h
     | cont=>exact False.elim h
     | ret u =>
       obtain ⟨v,H',os,bare,un,hok',r',q⟩:=h
       have q':v=.bl true:=q
       subst q'
       obtain rfl:u=Value.bool true:=r'
       refine⟨rfl,OldK.of_keep fun b o e=> ?_,os,bare⟩
       cases q:H b with
       | none=>exact un.keep b o e q (by intro z;exact absurd (show b ∈ ([]:List Addr) from z) (by simp)) (by simp)
       | some u =>
         rcases hO b with z | ⟨ob,xs,z⟩
         · rw[q]at z;cases z
         · have z2:=un.frzs b ob _ z
           obtain ⟨e1,_⟩:=hok b _ z
           obtain ⟨e2,_⟩:=hok' b _ z2
           rw[e]at e1;cases e1
           exact e2
 cases hk:K.lookup a with
 | some o =>
   have e:=KX a o hk
   rw[ha]at e
   cases e
   refine core (fun _=>none) (fun _=>.inl rfl) (.inr ⟨_,vs.toArray,_,hk,rfl,rfl,rfl,by rw[List.size_toArray,lenV];exact hl,by simpa using rv⟩) (fun b u z=>by have z':(none:Option HO)=some u:=z;cases z') (fun b z=>absurd rfl z) fun z=>absurd rfl z
 | none =>
   refine core (fun b=>if b=a then some (.frz { cls:=.type "list",data:=.seq vs.toArray } (.lst (ns.map V.int)))else none) (fun b=> ?_) (.inl (.inr ⟨{ cls:=.type "list",data:=.seq vs.toArray },if_pos rfl⟩)) (fun b u z=> ?_) (fun b z=> ?_) fun _=>hk
   · by_cases hb:b=a
     · exact .inr ⟨_,_,if_pos hb⟩
     · exact .inl (if_neg hb)
   · by_cases hb:b=a
     · have z':=(if_pos hb).symm.trans z
       cases z'
       subst hb
       exact⟨ha,by rw[List.length_map];exact hl,vs,_,rv,ha⟩
     · have z':=(if_neg hb).symm.trans z
       cases z'
   · by_cases hb:b=a
     · exact hb
     · exact absurd (if_neg hb) z
theorem walk_of {l:PySem.W.OpenLaw} {n k:Nat} {q:Program} {loose:List Str} {XP:(Str→Option Value)→Heap→Prop} {YP:World→Heap→Prop} {d:DefRec} {K:Params→PySem.W.Frag} {CX:World→CXT} {sp:World→Sp} {x:Str}
   (hn:l.most=some n) (hn2:n≤sizeLine) (hdf:d.params.defaults=[]) (hr:qaw k callerA)
   (hY:∀ (w:World) (h:Heap),YP w h→(K w.params).In h)
   (F:∀ (w:World) (mg:Str→Option Value) (fa:Addr) (h:Heap),(K w.params).In h→h.Ns mainGlobals mg→mg d.name=some (.ref fa) →
     ∃ fd:FuncData,(∀ (s:Shared) (u:Value),BindsTo s fd ⟨[u],[]⟩ [(x,u)]) ∧
       ∀ base:Heap,(K w.params).In base→base.Ns mainGlobals mg→qay l.prog w (K w.params) mg base (CX w) k fa fd [x] (sp w))
   (hsp:∀ (w:World) (H:Hp) (a:Addr) (ns:List Int),ns.length≤n→q0a H→SqL (K w.params) H a (ns.map V.int)→sp w [.ref a] H (fun v _=>v=.bl true) fun _ _ _=>False)
   (hCX:∀ (w:World) (H:Hp) (s:Shared) (e:Value) (s':Shared),CX w [] H s (fun _ _ _=>False) e s'→False) :
   PySem.W.WalkO q loose XP YP l.row.toRowW d [] (fun f vs=>PySem.call f vs):=by
 refine Att.attach_call hn hdf fun w s₀ s₁ mg mb fa o pm cd doc a vs ns G Y ho hd hcd hmg hobj hints hlen hg=> ?_
 have KX:=hY w _ Y
 obtain ⟨fd,hb,hF⟩:=F w mg fa _ KX G.T.g hmg
 exact qs4 KX G.T.g G.T.b G.T.builtins G.T.nolimit hg hobj hints (Nat.le_trans hlen hn2) hr hF hb (fun H hO hS=>hsp w H a ns hlen hO hS) fun H e s'=>hCX w H s₁ e s'
noncomputable def qau (s:Stmt):Arguments:=match s with
 | .FunctionDef _ a _ _ _ _ _ _ _ _=>a
 | _=>{ posonlyargs:=[],args:=[],vararg:=none,kwonlyargs:=[],kw_defaults:=[],kwarg:=none,defaults:=[] }
noncomputable def qq (s:Stmt):List Stmt:=match s with
 | .FunctionDef _ _ b _ _ _ _ _ _ _=>b
 | _=>[]
noncomputable def qb (s:Stmt):Scope:=match s with
 | .FunctionDef _ _ _ _ _ _ sc _ _ _=>sc
 | _=>{ kind:=.function,names:=[],isGenerator:=false,isCoroutine:=false }
noncomputable abbrev CX0:CXT:=fun _ _ _ _ _ _=>False
noncomputable abbrev E0:XK:=fun _ _ _=>False
theorem q3f {X:Cx}:Passes CX0 X E0:=fun _ _ _ _ _ _ _ h=>h.elim
structure Fun (K:PySem.W.Frag) (x qual:Str) (st:Stmt) (f:Addr) (fd:FuncData):Prop where
 ex:∃ (oc:Value) (od:Option Addr) (kV doc pm:Value) (an:Option Addr) (cdv ct:Value) (osl:Array (Option Value)),
   fd=PySem.W.fnOf x qual (qau st) (qq st) (qb st) .none kV doc pm an cdv ct∧K.lookup f=some ⟨oc,od,.func fd,osl⟩∧PySem.W.codeIn K cdv qual=true
 kp:PySem.W.keepIn K (.ref f)=true
section
variable {P:Program} {w:World} {K:PySem.W.Frag} {mg:Str→Option Value} {base:Heap}
theorem Fun.ok {x qual:Str} {st:Stmt} {f:Addr} {fd:FuncData} {N ps:List Str} {k:Nat} {sp:Sp} (F:Fun K x qual st f fd) (S:qan N ps (qb st)) (len:∀ vs H Q E,sp vs H Q E→vs.length=ps.length)
   (hbody:∀ (cdv:Value) (A:Around) (outer:List Env) (s:Shared) (H:Hp) (vs:List V) (Q:VK) (E:XK),qaw k (A.deeper (envOfC qual (qb st) s.heap.objs.size f cdv))→sp vs H Q E →
     ∃ t,PSs (qa8 CX0 P w K mg base N qual (qb st) f cdv A outer s H E).nox (qq st) t∧t { nx:=fun _ H'=>Q .non H',rt:=Q } (start N vs) H):qay P w K mg base CX0 (k+1) f fd ps sp:=by
 obtain ⟨oc,od,kV,doc,pm,an,cdv,ct,osl,rfl,lk,hcd⟩:=F.ex
 refine qqb lk hcd S len fun A outer s H vs Q E hr hsp=> ?_
 obtain ⟨t,h,q⟩:=hbody cdv A outer s H vs Q E hr hsp
 exact⟨t,h.nox,q⟩
theorem qf0 {x qual:Str} {st:Stmt} {f:Addr} {oc:Value} {od an:Option Addr} {osl:Array (Option Value)} {kV doc pm cdv ct:Value} (l:K.lookup f=some ⟨oc,od,.func (PySem.W.fnOf x qual (qau st) (qq st) (qb st) .none kV doc pm an cdv ct),osl⟩)
   (c:PySem.W.codeIn K cdv qual=true) (k:PySem.W.keepIn K (.ref f)=true):Fun K x qual st f (PySem.W.fnOf x qual (qau st) (qq st) (qb st) .none kV doc pm an cdv ct):=⟨⟨oc,od,kV,doc,pm,an,cdv,ct,osl,rfl,l,c⟩,k⟩
end
theorem qf1 {n:Nat} (h:n≤1000):n < sizeLine:=Nat.lt_of_le_of_lt h (by decide)
section
variable {X:Cx}
theorem pv (i:Nat) {x:Str} {pos:Pos} (hN:X.N[i]? =some x:=by rfl) (hv:Vis X.env.scope x:=by first | exact Or.inl rfl | exact Or.inr (Or.inl rfl) | exact Or.inr (Or.inr rfl)) (hd:(x==("__debug__":Str))=false:=by decide)
   (hcd:(x==("__classdict__":Str))=false:=by decide):PE X (.Name x pos) (qhy i):=qhz hN hv hd hcd
end
noncomputable def qev (H H':Hp):Prop:=∀ b o,H b=some o→H' b=some o
theorem qev.trans {H H1 H2:Hp} (a:qev H H1) (b:qev H1 H2):qev H H2:=fun c o h=>b c o (a c o h)
theorem qev.free {H H':Hp} (e:qev H H') {l:Addr} (h:H' l=Option.none):H l=Option.none:=by
 cases q:H l with
 | none=>rfl
 | some o =>
   rw[e l o q]at h
   cases h
structure Fn (P:Program) (w:World) (K:PySem.W.Frag) (mg:Str→Option Value) (base:Heap) (x:Str) (ps:List Str) (k:Nat) (sp:Sp):Prop where
 ex:∃ (f:Addr) (fd:FuncData),qay P w K mg base CX0 k f fd ps sp∧mg x=some (.ref f)∧PySem.W.keepIn K (.ref f)=true∧Binds K fd ps []
section
variable {X:Cx} {x:Str} {ps:List Str} {k k':Nat} {sp:Sp} {p pos:Pos} {e:Expr} {es:List Expr} {t:TA}
theorem q3g (F:Fn X.prog X.w X.K X.mg X.base x ps k sp) (hr:qaw k' X.A) (hk:k≤k') (hg:Gl X x) (ha:PA X (e::es) t) (hdb:(x==("__debug__":Str))=false:=by decide)
   (he:starEach (e::es) X.env=(false,eval e X.env)::starEach es X.env:=by rfl) (hpl:(backTo pos (starEach es X.env)).any (·.1)=false:=by rfl) :
   PE X (.Call (.Name x p) (e::es) [] pos) (qp9 sp [] E0 t):=by
 obtain ⟨f,fd,G,hm,hkp,hb⟩:=F.ex
 exact qqa G (hr.mono hk) hg hm hkp hb .nil q3f ha hdb he hpl
end
theorem qk9:bootBuiltins "list"=some (.type "list"):=by decide +kernel
theorem qmy:bootBuiltins "tuple"=some (.type "tuple"):=by decide +kernel
theorem qwd:bootBuiltins "bool"=some (.type "bool"):=by decide +kernel
theorem qs5:bootBuiltins "int"=some (.type "int"):=by decide +kernel
theorem qs6:bootBuiltins "str"=some (.type "str"):=by decide +kernel
theorem qwe:bootBuiltins "dict"=some (.type "dict"):=by decide +kernel
theorem q0b:bootBuiltins "zip"=some (.type "zip"):=by decide +kernel
theorem qs7:bootBuiltins "len"=some (.builtin "len"):=by decide +kernel
theorem q0c:bootBuiltins "all"=some (.builtin "all"):=by decide +kernel
theorem qel:bootBuiltins "isinstance"=some (.builtin "isinstance"):=by decide +kernel
section
variable {X:Cx}
noncomputable def q6k (K:PySem.W.Frag):List V→Hp→VK→Prop:=fun xs H Q=>∃ x n t b,xs=[x,.ty n]∧qe7 K H x t∧PySem.W.kitOne K t (.type n)=some b∧Q (.bl b) H
theorem qs8:qbj X (.builtin "isinstance") (q6k X.K):=by
 intro pins s σ H xs us Q I r h
 obtain ⟨x,n,t,b,rfl,ty,e,q⟩:=h
 cases r with
 | cons r1 r =>
   cases r with
   | cons r2 r =>
     cases r
     obtain rfl:=(show _=Value.type n from r2)
     exact qrb I r1 ty e fun tk=>⟨.bl b,H,I.tok _,rfl,q⟩
end
example (K:PySem.W.Frag):PySem.W.kitOne K (.type "int") (.type "list")=some false:=by rfl
example (K:PySem.W.Frag):PySem.W.kitOne K (.type "int") (.type "int")=some true:=by rfl
example (K:PySem.W.Frag):PySem.W.kitOne K (.type "bool") (.type "int")=some true:=by rfl
example (K:PySem.W.Frag):PySem.W.kitOne K (.type "list") (.type "tuple")=some false:=by rfl
example (K:PySem.W.Frag):PySem.W.kitOne K (.type "NoneType") (.type "str")=some false:=by rfl
section
variable {X:Cx}
theorem of_rcne {A:Around} {s:Shared} {prog:Program} {w:World} {E:Value→Shared→Prop} {Q:Value→Shared→Prop} {a b:Value} {k:Bool} (h:SeqAt.RcNeAt A s a b k) (hq:Q (.bool k) s):wpAny (model prog w) A (compareOp .NotEq a b) Q E s:=h prog w E Q hq
end
theorem qev.upd {H:Hp} {p:Addr} {o:HO} (h:H p=none):qev H (L2.upd H p o):=fun c u e=>by rw[qg (qab e h)];exact e
theorem q3h {P:Program} {w:World} {K:PySem.W.Frag} {mg:Str→Option Value} {base:Heap} {x:Str} {ps:List Str} {k:Nat} {sp:Sp} {f:Addr} {fd:FuncData} (F:qay P w K mg base CX0 k f fd ps sp) (m:mg x=some (.ref f)) (kp:PySem.W.keepIn K (.ref f)=true) (b:Binds K fd ps []):Fn P w K mg base x ps k sp:=⟨f,fd,F,m,kp,b⟩
section
variable {X:Cx}
noncomputable def qem (i j:Int):Prop:=0 < j∧j < 1606938044258990275541962092341162602522202993782792835301376
theorem qem.ok {i j:Int} (h:qem i j):Builtin.divisionGoesByPylong i j=false:=by
 refine PyProof.noPylong_of_log2 ?_
 have h1:j.natAbs < 2 ^ 200:=by have:=h.1;have:=h.2;omega
 have h2:j.natAbs ≠ 0:=by have:=h.1;omega
 have:=(Nat.log2_lt h2).mpr h1
 omega
theorem qs9:OpR X (binaryOp .FloorDiv) (rI qem fun i j=>.int (i / j)):=opI fun i j _ _ _ _ _ hc q=>by
 refine floordiv_int (by have:=hc.1;omega) ?_ (.inl hc.ok)
 rw[Int.fdiv_eq_ediv_of_nonneg _ (Int.le_of_lt hc.1)]
 exact q
theorem qta:qmu X (qz4 X.K):=by
 intro pins s σ H x y v u Q I rx ry h
 obtain ⟨p,xs,i,z,rfl,rfl,hq,he,q⟩:=h
 cases rx
 obtain ⟨t,rfl⟩:=ry
 obtain ⟨its,r,pl,hz⟩:=I.list hq
 obtain ⟨j,h1,h2,h3,h4,h5⟩:=qhh he
 obtain ⟨w,ew,rw'⟩:=r.get h2
 have hl:=r.length
 have hn:=qdn
 have fin:EP X pins σ Q w s:=⟨z,H,I,rw',q⟩
 by_cases h0:0≤i
 · have hj:i.toNat=j:=by
     rw[seqIndex_of h0 h5]at h1
     exact Option.some.inj h1
   exact wpAny_getItem_list pl.isList h0 (by omega) (by rw[hj];simpa using ew) fin
 · have hj:(i+(its.toArray.size:Int)).toNat=j:=by
     rw[seqIndex_neg (by omega) h4]at h1
     rw[List.size_toArray,← hl]
     exact Option.some.inj h1
   exact wpAny_getItem_list_neg pl.isList (by omega) (by rw[List.size_toArray] <;> omega) (by omega) (by rw[hj];simpa using ew) fin
end
theorem qrg (ns:List Int) (lo hi:Option Int):∃ ms:List Int,qg7 (ns.map V.int) lo hi=ms.map V.int :=
 ⟨(ns.drop (HT.sIx (ns.map V.int).length 0 lo)).take (HT.sIx (ns.map V.int).length (ns.map V.int).length hi - HT.sIx (ns.map V.int).length 0 lo),by unfold qg7;rw[← List.map_drop,← List.map_take]⟩
noncomputable def qck (env:Env):List (Str × NameKind)→List (Str × Addr)→List (Str × Addr)
 | [],cs=>cs
 | (n,k)::r,cs=>qck env r (if k==.free then (n,(env.cells.lookup n).getD 0)::cs else cs)
noncomputable def clo (scope:Scope) (env:Env):List (Str × Addr):=qck env scope.names []
theorem qgr (env:Env):∀ (names:List (Str × NameKind)) (cs:List (Str × Addr)),(∀ y ∈ names,y.2=.free→∃ c,env.cells.lookup y.1=some c) →
   (forIn names cs (fun (x:Str × NameKind) (r:List (Str × Addr))=>do
     let cs:=r
     if x.2==NameKind.free then do
       let c ← cellOf env x.1
       let cs:=(x.1,c)::cs
       pure PUnit.unit
       pure (ForInStep.yield cs)
     else do
       pure PUnit.unit
       pure (ForInStep.yield cs)):Sem (List (Str × Addr)))=pure (qck env names cs)
 | [],cs,_=>rfl
 | (n,k)::r,cs,h=>by
   have ih:=fun cs=>qgr env r cs (fun y hy=>h y (List.mem_cons_of_mem _ hy))
   rw[List.forIn_cons]
   by_cases hk:k=.free
   · subst hk
     obtain ⟨c,e⟩:=h (n,.free) List.mem_cons_self rfl
     have e1:cellOf env n=pure c:=by unfold cellOf;rw[e]
     simp only [beq_self_eq_true,if_true,e1,pure_bind]
     rw[ih]
     show _=pure (qck env r (if (NameKind.free==NameKind.free)=true then _ else _))
     rw[if_pos (by rfl),e]
     rfl
   · have hb:(k==NameKind.free)=false:=by simpa using hk
     simp only [hb,Bool.false_eq_true,if_false,pure_bind]
     rw[ih]
     show _=pure (qck env r (if (k==NameKind.free)=true then _ else _))
     rw[hb]
     rfl
theorem qtb {scope:Scope} {env:Env} (h:∀ y ∈ scope.names,y.2=.free→∃ c,env.cells.lookup y.1=some c):closureFor scope env=pure (clo scope env):=by
 unfold closureFor
 have:=qgr env scope.names [] h
 simp only [pure_bind,bind_pure]at this ⊢
 exact this
theorem qgs (env:Env):∀ (names:List (Str × NameKind)) (cs:List (Str × Addr)) (x:Str) (c:Addr),(∀ y ∈ names,y.2=.free→∃ c,env.cells.lookup y.1=some c)→(qck env names cs).lookup x=some c →
   (cs.lookup x=some c∨env.cells.lookup x=some c)
 | [],cs,x,c,_,h=>.inl h
 | (n, k)::r,cs,x,c,hh,h=>by
   have ih:=qgs env r (if k==.free then (n,(env.cells.lookup n).getD 0)::cs else cs) x c (fun y hy=>hh y (List.mem_cons_of_mem _ hy)) h
   rcases ih with ih | ih
   · by_cases hk:k=.free
     · subst hk
       rw[if_pos (by rfl)]at ih
       obtain ⟨d,e⟩:=hh (n,.free) List.mem_cons_self rfl
       by_cases hx:x=n
       · subst hx
         simp [List.lookup_cons]at ih
         rw[e]at ih
         right
         rw[e]
         simpa using ih
       · have:(x==n)=false:=by simpa using hx
         simp only [List.lookup_cons,this]at ih
         exact .inl ih
     · have hb:(k==NameKind.free)=false:=by simpa using hk
       rw[hb]at ih
       exact .inl ih
   · exact .inr ih
theorem qla {scope:Scope} {env:Env} {x:Str} {c:Addr} (hh:∀ y ∈ scope.names,y.2=.free→∃ c,env.cells.lookup y.1=some c) (h:(clo scope env).lookup x=some c):env.cells.lookup x=some c:=by
 rcases qgs env scope.names [] x c hh h with z | z
 · simp at z
 · exact z
theorem qfa (env:Env):∀ (names:List (Str × NameKind)) (cs:List (Str × Addr)) (x:Str),(∃ c,cs.lookup x=some c)→∃ c,(qck env names cs).lookup x=some c
 | [],cs,x,h=>h
 | (n,k)::r,cs,x,h=>by
   refine qfa env r _ x ?_
   by_cases hk:(k==NameKind.free)=true
   · rw[if_pos hk,List.lookup_cons]
     cases x==n with
     | true=>exact⟨_,rfl⟩
     | false=>exact h
   · rw[if_neg hk];exact h
theorem qdo (env:Env):∀ (names:List (Str × NameKind)) (cs:List (Str × Addr)) (x:Str),(x,NameKind.free) ∈ names→∃ c,(qck env names cs).lookup x=some c
 | [],cs,x,h=>by simp at h
 | (n,k)::r,cs,x,h=>by
   rcases List.mem_cons.mp h with h | h
   · cases h
     refine qfa env r _ _ ?_
     rw[if_pos (by rfl),List.lookup_cons]
     simp
   · exact qdo env r _ x h
theorem qb6 {scope:Scope} {env:Env} {x:Str} {k:NameKind} (h:(relabel scope env).names.lookup x=some k):(x,k) ∈ scope.names∨(k=.cell∧(x,NameKind.free) ∈ scope.names):=by
 have hm:=PySem.mem_of_lookup h
 unfold relabel at hm
 obtain ⟨⟨n,k'⟩,h1,h2⟩:=List.mem_map.mp hm
 dsimp only at h2
 by_cases hc:(k'==NameKind.free && env.scope.kind==.function && env.kindOf n==some .cell)=true
 · rw[if_pos hc]at h2
   cases h2
   simp only [Bool.and_eq_true,beq_iff_eq]at hc
   obtain ⟨⟨rfl,_⟩,_⟩:=hc
   exact .inr ⟨rfl,h1⟩
 · rw[if_neg hc]at h2
   cases h2
   exact .inl h1
theorem qae:∀ (names:List (Str × NameKind)) (n:Nat) (acc:List (Str × Addr)),cellsFrom n names acc=cellsFrom n names []++acc
 | [],n,acc=>rfl
 | (x,k)::r,n,acc=>by
   by_cases hk:(k==NameKind.cell)=true
   · have e:∀ a,cellsFrom n ((x,k)::r) a=cellsFrom (n+1) r ((x,n)::a):=fun a=>by rw[cellsFrom,if_pos hk]
     rw[e,e,qae r (n+1) ((x,n)::acc),qae r (n+1) [(x,n)],List.append_assoc]
     rfl
   · have e:∀ a,cellsFrom n ((x,k)::r) a=cellsFrom n r a:=fun a=>by rw[cellsFrom,if_neg hk]
     rw[e,e]
     exact qae r n acc
theorem qcu:∀ {names:List (Str × NameKind)} {n:Nat} {x:Str} {a:Addr},(x,a) ∈ cellsFrom n names []→(x,NameKind.cell) ∈ names
 | [],n,x,a,h=>by simp [cellsFrom]at h
 | (y, k)::r,n,x,a,h=>by
   by_cases hk:(k==NameKind.cell)=true
   · rw[cellsFrom,if_pos hk,qae]at h
     rcases List.mem_append.mp h with z | z
     · exact List.mem_cons_of_mem _ (qcu z)
     · have z:(x,a)=(y,n):=by simpa using z
       cases z
       have:k=.cell:=by simpa using hk
       subst this
       exact List.mem_cons_self
   · rw[cellsFrom,if_neg hk]at h
     exact List.mem_cons_of_mem _ (qcu h)
theorem qcb {α:Type} (x:Str):∀ (l m:List (Str × α)),(l++m).lookup x=(l.lookup x).or (m.lookup x)
 | [],m=>rfl
 | (y,a)::l,m=>by
   rw[List.cons_append,List.lookup_cons,List.lookup_cons,qcb x l m]
   cases x==y <;> rfl
theorem qbu:∀ {names:List (Str × NameKind)} {n:Nat} {x:Str},(x,NameKind.cell) ∈ names→∃ a,(cellsFrom n names []).lookup x=some a
 | [],n,x,h=>by simp at h
 | (y, k)::r,n,x,h=>by
   by_cases hk:(k==NameKind.cell)=true
   · rw[cellsFrom,if_pos hk,qae,qcb]
     rcases List.mem_cons.mp h with z | z
     · cases z
       cases q:(cellsFrom (n+1) r []).lookup y with
       | some a=>exact⟨a,rfl⟩
       | none=>exact⟨n,by simp [List.lookup_cons]⟩
     · obtain ⟨a,e⟩:=qbu (n:=n+1) z
       exact⟨a,by rw[e];rfl⟩
   · rw[cellsFrom,if_neg hk]
     rcases List.mem_cons.mp h with z | z
     · cases z;simp at hk
     · exact qbu z
theorem qo6 {M:Model} {A:Around} {E:Value→Shared→Prop} {scope:Scope} {cl:List (Str × Addr)} {env:Env} {Q:Env→Shared→Prop} {s:Shared}
   (h:Q { scope:=scope,locals:=s.heap.objs.size,globals:=env.globals,cells:=cellsFrom (s.heap.objs.size+1) scope.names cl,qual:=env.qual,func:=none,code:=env.code,frame:=env.frame,builtins:=env.builtins } { s with heap:=pushCells (s.heap.push { cls:=.type "dict",data:=.dict #[] }) scope.names }) :
   wpAny M A (newFunctionEnv scope env.globals cl [] env.qual none .none (some env)) Q E s:=by
 simp only [newFunctionEnv,Option.isSome_some,if_true]
 refine wpAny_bind (wpAny_alloc ?_)
 refine wpAny_bind (wpAny_layCells _ (fun name kind cells=>by cases hkc:kind==NameKind.cell <;> simp [hkc]) _ _ _ _ ?_)
 rw[show ({ s with heap:=s.heap.push { cls:=.type "dict",data:=.dict #[] } }:Shared).heap.objs.size=s.heap.objs.size+1 from Heap.size_push ..]
 rw[List.forIn_nil]
 exact wpAny_bind (wpAny_pure (wpAny_pure h))
noncomputable def cxC (X:Cx) (ts M:List Str) (scope:Scope) (C:Addr) (fp:List Addr) (s₀:Shared) (H₀:Hp):Cx :=
 { X with N:=ts++M,s₀:=s₀,H₀:=H₀,env:=compEnvC scope (cellsFrom (C+1) scope.names (clo scope X.env)) C X.env,outer:=X.stack,ex:=fp,fn:=fun x=>scope.names.lookup x==some .cell,pn:=[],xe:=fun _ _=>False }
structure qbz (X:Cx) (ts M:List Str) (scope:Scope):Prop where
 kind:scope.kind=.function
 cell:∀ x ∈ M,(x,NameKind.cell) ∉ scope.names
 loc:∀ y ∈ scope.names,y.2=.local→scope.names.lookup y.1=some .local
 fr:∀ y ∈ scope.names,y.2=.free→X.env.kindOf y.1=some .cell∨X.env.kindOf y.1=some .free
 own:∀ x ∈ M,(x,NameKind.local) ∉ scope.names
 nd:(ts++M).Nodup
 len:M.length=X.N.length
 seen:∀ (i:Nat) (x:Str) (k:NameKind),M[i]? =some x→(x,k) ∈ scope.names→X.N[i]? =some x
noncomputable def qlb (N:List Str) (sc:Scope) (ts M:List Str) (scope:Scope):Bool :=
 scope.kind==.function && scope.names.all (fun y=>(y.2 != .local || scope.names.lookup y.1==some .local) && (y.2 != .free || (sc.names.lookup y.1==some .cell || sc.names.lookup y.1==some .free))) &&
   M.all (fun x=>scope.names.all fun y=> !(y.1==x && (y.2==.local || y.2==.cell))) && decide (ts++M).Nodup && (decide (M.length=N.length) && (N.zip M).all fun p=>p.1==p.2 || scope.names.all fun y=> !(y.1==p.2))
theorem qlc {X:Cx} {N:List Str} {sc:Scope} {ts M:List Str} {scope:Scope} (hN:X.N=N) (hs:X.env.scope=sc) (h:qlb N sc ts M scope=true):qbz X ts M scope:=by
 subst hN hs
 unfold qlb at h
 rw[Bool.and_eq_true,Bool.and_eq_true (decide (M.length=X.N.length))]at h
 obtain ⟨h,h5,h6⟩:=h
 simp only [Bool.and_eq_true,List.all_eq_true,decide_eq_true_eq,bne_iff_ne,Bool.or_eq_true,beq_iff_eq,Bool.not_eq_true',Bool.and_eq_false_imp]at h
 obtain ⟨⟨⟨h1,h2⟩,h3⟩,h4⟩:=h
 have h5:M.length=X.N.length:=of_decide_eq_true h5
 refine⟨h1,fun x hx hy=> ?_,fun y hy hk=> ?_,fun y hy hk=> ?_,fun x hx hy=> ?_,h4,h5,fun i x k hi hk=> ?_⟩
 · have:=h3 x hx (x,.cell) hy rfl
   simp at this
 · rcases (h2 y hy).1 with z | z
   · exact absurd hk z
   · exact z
 · rcases (h2 y hy).2 with z | z
   · exact absurd hk z
   · exact z
 · have:=h3 x hx (x,.local) hy rfl
   simp at this
 · have hl:i < M.length:=(List.getElem?_eq_some_iff.mp hi).1
   have hl2:i < X.N.length:=by omega
   have e2:X.N[i]? =some X.N[i]:=by simp [hl2]
   have hm:(X.N[i],x) ∈ X.N.zip M:=by
     refine List.mem_of_getElem? (i:=i) ?_
     rw[List.getElem?_zip_eq_some]
     exact⟨e2,hi⟩
   have:=List.all_eq_true.mp h6 _ hm
   rcases Bool.or_eq_true _ _ ▸ this with z | z
   · have z:X.N[i]=x:=by simpa using z
     rw[e2,z]
   · have:=List.all_eq_true.mp z _ hk
     simp at this
noncomputable def qkd (scope sc:Scope):Scope :=
 { scope with names:=scope.names.map fun (n,k)=>if (k==.free && sc.kind==.function && sc.names.lookup n==some .cell)then (n,.cell)else (n,k) }
section
variable {X:Cx} {pins:List (Addr × Obj)} {σ:St} {H:Hp} {s:Shared} {ts M:List Str} {scope:Scope} {fp:List Addr}
theorem qbz.has (c:qbz X ts M scope) (ok:X.Ok):∀ y ∈ scope.names,y.2=.free→∃ a,X.env.cells.lookup y.1=some a:=fun y hy hk=>ok.has y.1 (c.fr y hy hk)
theorem qbz.cellIn {x:Str} (h:(relabel scope X.env).names.lookup x=some .cell∨(relabel scope X.env).names.lookup x=some .free):(x,NameKind.free) ∈ scope.names∨(x,NameKind.cell) ∈ scope.names:=by
 rcases h with h | h
 · rcases qb6 h with z | ⟨_,z⟩
   · exact .inr z
   · exact .inl z
 · rcases qb6 h with z | ⟨z,_⟩
   · exact .inl z
   · cases z
structure q3i (scope:Scope) (C:Addr) (h₁:Heap):Prop where
 empty:∀ x a,(x,a) ∈ cellsFrom (C+1) scope.names []→h₁.IsCell a none∧ @LT.lt Nat _ C a
 apart:(cellsFrom (C+1) scope.names []).Pairwise fun x y=>x.2 ≠ y.2
theorem qbk {env:Env} {C:Addr} {x:Str} {a:Addr} (h:(cellsFrom (C+1) scope.names (clo scope env)).lookup x=some a):(x,a) ∈ cellsFrom (C+1) scope.names []∨((cellsFrom (C+1) scope.names []).lookup x=none∧(clo scope env).lookup x=some a):=by
 rw[qae,qcb]at h
 cases e:(cellsFrom (C+1) scope.names []).lookup x with
 | some b =>
   rw[e]at h
   have:b=a:=by simpa using h
   subst this
   exact .inl (PySem.mem_of_lookup e)
 | none =>
   rw[e]at h
   exact .inr ⟨rfl,by simpa using h⟩
theorem Inv.comp (c:qbz X ts M scope) (I:Inv X pins σ H s) (hf:∀ b ∈ fp,qg6 X pins H b) (ho:∀ b ∈ fp,b < s.heap.objs.size) {C:Addr} {h₁:Heap} {t':Nat} (hC:s.heap.objs.size≤C) (hn:h₁.Ns C fun _=>none) (hO:q3i scope C h₁) (k:∀ b u,s.heap.get? b=some u→h₁.get? b=some u) :
   Inv (cxC X ts M scope C fp s H) [] (List.replicate ts.length none++σ) H { s with heap:=h₁,toks:=t' }:=by
 have has:=c.has I.ok
 have sub:∀ x a,(clo scope X.env).lookup x=some a→X.env.cells.lookup x=some a:=fun x a h=>qla has h
 have low:∀ x a,(clo scope X.env).lookup x=some a→ @LT.lt Nat _ a C:=fun x a h=>by
   obtain ⟨v,q⟩:=I.cell x a (sub x a h)
   have:=q.lt
   exact Nat.lt_of_lt_of_le this hC
 have kept:=I.kept (t':=t') k
 refine⟨⟨I.ok.mod,c.kind,I.ok.glob,I.ok.blt,hC,fun x y a h1 h2=> ?_,fun x hx=> ?_,fun x a hx h=> ?_,I.ok.hd,I.ok.frames,.inl rfl,fun b hb=>⟨?_,fun x a h=> ?_⟩,I.bs,Nat.le_trans I.ok.bsz I.sz,fun b o e hb=> ?_,fun b hb z=> ?_,I.stack,I.stkFree⟩,
   rfl,I.bare,Un.kept k,⟨_,hn,fun i x v h1 h2 h3=> ?_⟩,fun x a h=> ?_,I.hok.fresh hC,fun x a h=> ?_,fun p hp=>by simp [cxC]at hp,I.hok.kept k,?_⟩
 · rcases qbk h1 with z1 | ⟨_,z1⟩ <;> rcases qbk h2 with z2 | ⟨_,z2⟩
   · exact PySem.name_of_addr hO.apart z1 z2
   · exact absurd (Nat.lt_trans (hO.empty _ _ z1).2 (low _ _ z2)) (Nat.lt_irrefl _)
   · exact absurd (Nat.lt_trans (hO.empty _ _ z2).2 (low _ _ z1)) (Nat.lt_irrefl _)
   · exact I.ok.inj x y a (sub x a z1) (sub y a z2)
 · show ∃ a,(cellsFrom (C+1) scope.names (clo scope X.env)).lookup x=some a
   rw[qae,qcb]
   rcases qbz.cellIn hx with z | z
   · obtain ⟨a,e⟩:=qdo X.env scope.names [] x z
     cases (cellsFrom (C+1) scope.names []).lookup x with
     | some b=>exact⟨b,rfl⟩
     | none=>exact⟨a,e⟩
   · obtain ⟨a,e⟩:=qbu (n:=C+1) z
     exact⟨a,by rw[e];rfl⟩
 · have hx:(scope.names.lookup x==some NameKind.cell)=true:=hx
   have hx:scope.names.lookup x=some NameKind.cell:=by simpa using hx
   obtain ⟨b,e⟩:=qbu (n:=C+1) (PySem.mem_of_lookup hx)
   rcases qbk h with z | ⟨z,_⟩
   · exact Nat.le_trans hC (Nat.le_of_lt (hO.empty _ _ z).2)
   · rw[e]at z;cases z
 · exact Nat.ne_of_lt (Nat.lt_of_lt_of_le (ho b hb) hC)
 · rcases qbk h with z | ⟨_,z⟩
   · exact Nat.ne_of_gt (Nat.lt_trans (Nat.lt_of_lt_of_le (ho b hb) hC) (hO.empty _ _ z).2)
   · exact(hf b hb).2.2.2.2.1 x a (sub x a z)
 · rcases (hf b hb).2.2.2.1 with z | z
   · exact I.ok.noex b o e z
   · exact absurd (Nat.lt_of_lt_of_le (Heap.lt_size e) (Nat.le_trans I.ok.bsz z)) (Nat.lt_irrefl _)
 · rcases List.mem_cons.mp (I.stkSub b z)with e | e
   · exact(hf b hb).2.1 e
   · exact(hf b hb).2.2.1 e
 · -- a name of the def,seen in the block
   have hi:ts.length≤i:=by
     rcases Nat.lt_or_ge i ts.length with z | z
     · rw[List.getElem?_append_left (by simpa using z),List.getElem?_replicate]at h2
       split at h2 <;> cases h2
     · exact z
   have h0':M[i - ts.length]? =some x:=by
     have h1:(ts++M)[i]? =some x:=h1
     rwa [List.getElem?_append_right hi]at h1
   have h2':σ[i - ts.length]? =some (some v):=by
     rw[List.getElem?_append_right (by simpa using hi)]at h2
     simpa using h2
   have nC:=c.cell x (List.mem_of_getElem? h0')
   have hx:(x,NameKind.free) ∈ scope.names:=by
     rcases h3 with z | z
     · rcases qb6 z with q | ⟨q,_⟩
       · exact absurd q (c.own x (List.mem_of_getElem? h0'))
       · cases q
     · rcases qbz.cellIn z with q | q
       · exact q
       · exact absurd q nC
   have hk:=c.fr _ hx rfl
   have h1':=c.seen _ x _ h0' hx
   obtain ⟨m,hm,hl⟩:=I.loc
   have vis:Vis X.env.scope x:=by
     rcases hk with z | z
     · exact .inr (.inl z)
     · exact .inr (.inr z)
   obtain ⟨u,r,l⟩:=hl _ x v h1' h2' vis
   refine⟨u,r,.inr ⟨?_,?_⟩⟩
   · rcases h3 with z | z
     · rcases qb6 z with q | ⟨q,_⟩
       · exact absurd q (c.own x (List.mem_of_getElem? h0'))
       · cases q
     · exact z
   · rcases l with ⟨l,_⟩ | ⟨_,a,ha,hcell⟩
     · exfalso
       rcases hk with z | z
       · rw[l]at z;cases z
       · rw[l]at z;cases z
     · obtain ⟨a',ha'⟩:=qdo X.env scope.names [] x hx
       have:X.env.cells.lookup x=some a':=sub x a' ha'
       rw[ha]at this;cases this
       obtain ⟨o,e,d⟩:=hcell
       refine⟨a,?_,o,k _ _ e,d⟩
       show (cellsFrom (C+1) scope.names (clo scope X.env)).lookup x=some a
       rw[qae,qcb]
       cases q:(cellsFrom (C+1) scope.names []).lookup x with
       | some b=>exact absurd (qcu (PySem.mem_of_lookup q)) nC
       | none=>exact ha'
 · rcases qbk h with z | ⟨_,z⟩
   · exact⟨none,(hO.empty _ _ z).1⟩
   · obtain ⟨v,o,e,d⟩:=I.cell x a (sub x a z)
     exact⟨v,o,k _ _ e,d⟩
 · rcases qbk h with z | ⟨_,z⟩
   · exact I.hok.fresh (Nat.le_trans hC (Nat.le_of_lt (hO.empty _ _ z).2))
   · exact I.freeC x a (sub x a z)
 · show (List.replicate ts.length none++σ).length=(ts++M).length
   rw[List.length_append,List.length_append,List.length_replicate,I.len,c.len]
theorem Inv.comped {H':Hp} {s':Shared} {σ':St} {C D:Addr} {pins':List (Addr × Obj)} {ys:List V} (I:Inv X pins σ H s) (hf:∀ b ∈ fp,qg6 X pins H b) (J:Inv (cxC X ts M scope C fp s H) pins' σ' H' s') (hD:s.heap.objs.size≤D) (hD0:H' D=none) (hz:ys.length≤sizeLine) {its:List Value} {n:Nat} (rv:Vals ys its)
   (hl:s'.heap.get? D=some { cls:=.type "list",data:=.seq its.toArray n }):Inv X pins σ (upd H' D (.lst ys)) s':=by
 have u:=J.base
 have neD:∀ b o,s.heap.get? b=some o→b ≠ D:=fun b o e=>Nat.ne_of_lt (Nat.lt_of_lt_of_le (Heap.lt_size e) hD)
 have neH:∀ b o,H' b=some o→b ≠ D:=fun b o e z=>by rw[z,hD0]at e;cases e
 refine I.call' (ch:=fp) J.os ⟨u.keep,u.slot,fun b o e n hb=> ?_,u.there,fun b xs e=> ?_,fun b o w e=> ?_,fun b ps e=> ?_⟩ (fun b o e=> ?_) J.bare (fun b hb=>⟨(hf b hb).2.2.2.1,(hf b hb).2.1,(hf b hb).2.2.2.2.1,(hf b hb).2.2.2.2.2⟩)
 · rw[qg (neD b o e)];exact u.free b o e n hb
 · have q:=u.tups b xs e
   rw[qg (neH b _ q)];exact q
 · have q:=u.frzs b o w e
   rw[qg (neH b _ q)];exact q
 · obtain ⟨more,q⟩:=u.tbls b ps e
   exact⟨more,by rw[qg (neH b _ q)];exact q⟩
 · by_cases hb:b=D
   · subst hb
     rw[qj]at e;cases e
     exact⟨hz,its,n,rv,hl⟩
   · rw[qg hb]at e
     refine(J.hok b o e).stay (fun _ _ _ q=>q) (fun c q=> ?_) fun c xs q=> ?_
     · rw[qg (neH c _ q)];exact q
     · rw[qg (neH c _ q)];exact q
end
noncomputable def PF (X:Cx) (ifs:List Expr) (t:TT):Prop :=
 ∀ (pins:List (Addr × Obj)) (s:Shared) (σ:St) (H:Hp) (Q:Bool→Hp→Prop),Inv X pins σ H s→t σ H Q →
   wpAny (model X.prog X.w) X.A (forIn ifs true fun c r=>if r=true then do let ok ← isTrue c X.env (eval c X.env);pure (ForInStep.yield ok)else pure (ForInStep.yield r)) (TP X pins σ Q) X.xe s
noncomputable def q6l:TT:=fun _ H Q=>Q true H
theorem q0d {X:Cx}:PF X [] q6l:=fun _ _ _ H _ I h=>wpAny_tests_nil ⟨H,I,h⟩
theorem q0e {X:Cx} {c:Expr} {t:TT} (h:PT X c t):PF X [c] t:=fun pins s σ H Q I hq=>wpAny_tests_one (h pins s σ H Q I hq)
theorem qld {prog:Program} {w:World} {A:Around} {R:Result→Shared→Prop} {elt target iter:Expr} {ifs:List Expr} {scope:Scope} {pos:Pos} {it acc:Value} {env:Env} {s:Shared} (I:Nat→Shared→Prop)
   (turn : ∀ n s,I n s→wpAny (model prog w) A (pyNext it) (fun r s₁=>match r with
     | none=>R (.ok .next) s₁
     | some v=>wpAny (model prog w) A (letOwnedTupleGo target it v) (fun _ s₁'=>wpAny (model prog w) A (assign target env v) (fun _ s₂ =>
         wpAny (model prog w) A (forIn ifs true fun c r=>if r=true then do let ok ← isTrue c env (eval c env);pure (ForInStep.yield ok)else pure (ForInStep.yield r)) (fun ok s₃ =>
           if ok=true then wpAny (model prog w) A (eval elt env) (fun x s₄ =>
             wpAny (model prog w) A (call (.builtin "list.append") [acc,x]) (fun _ s₅=>∃ m,m < n∧I m s₅) (fun _ _=>False) s₄) (fun _ _=>False) s₃
           else ∃ m,m < n∧I m s₃) (fun _ _=>False) s₂) (fun _ _=>False) s₁') (fun _ _=>False) s₁) (fun _ _=>False) s)
   (n:Nat) (h:I n s) :
   codeAny (model prog w) A (.compLoop (.ListComp elt [⟨target,iter,ifs,0⟩] scope pos) 0 it acc env) R s:=by
 refine codeAny_loop rfl I (fun n s hI=> ?_) n h
 show wpAny _ A ((compTurn (.ListComp elt [⟨target,iter,ifs,0⟩] scope pos) 0 it acc env).onRaise (fun x=>do noteFrame x env;theTreesLotGoes x)) _ _ s
 refine wpAny_noted ?_
 rw[compTurn_list]
 refine wpAny_bind (wpAny_standAt (wpAny_bind (wpAny_mono (turn n s hI) (fun r s₁ h₁=> ?_) fun _ _ h'=>h'.elim)))
 cases r with
 | none=>exact wpAny_pure h₁
 | some v =>
   refine wpAny_bind (wpAny_mono h₁ (fun _ s₁' h₁'=> ?_) fun _ _ h'=>h'.elim)
   refine wpAny_bind (wpAny_mono h₁' (fun _ s₂ h₂=>wpAny_bind (wpAny_mono h₂ (fun ok s₃ h₃=> ?_) fun _ _ h'=>h'.elim)) fun _ _ h'=>h'.elim)
   cases ok with
   | false=>exact wpAny_pure ⟨rfl,h₃⟩
   | true =>
     exact wpAny_bind (wpAny_bind (wpAny_mono h₃ (fun x s₄ h₄=>wpAny_bind (wpAny_mono h₄ (fun _ s₅ h₅=>wpAny_pure (wpAny_pure ⟨rfl,h₅⟩)) fun _ _ h'=>h'.elim)) fun _ _ h'=>h'.elim))
noncomputable def LcW (J:It) (n:Nat) (g:TG) (tt:TT) (te:TE) (σ:St) (H1:Hp) (Fin:List V→Hp→Prop):Prop :=
 ∃ W : Nat→Nat→List V→Hp→Prop,(∃ m,W 0 m [] H1)∧∀ i m ys H,W i m ys H→ys.length < sizeLine ∧
   ((J.stop i H∧Fin ys H) ∨
    (J.go i H∧∃ N:List V→Hp→Prop,(∀ ys' H',N ys' H'→∃ m',m' < m∧W (i+1) m' ys' H')∧∀ x H',J.yld i H x H'→g x (List.replicate n none++σ) H' fun σ2 H2=>σ2.drop n=σ∧tt σ2 H2 fun c H3 =>
       if c=true then te σ2 H3 fun y H4=>N (ys++[y]) H4 else N ys H3))
noncomputable def tLC (n:Nat) (wi:TI) (g:TG) (tt:TT) (te:TE):TE:=fun σ H Q=>wi σ H fun J H1=>LcW J n g tt te σ H1 fun ys H'=>∀ D,H' D=none→Q (.ref D) (upd H' D (.lst ys))
section
variable {X:Cx} {pins:List (Addr × Obj)} {σ:St} {H:Hp} {s:Shared} {ts M:List Str} {scope:Scope} {fp:List Addr}
theorem qmz {tg iter elt:Expr} {ifs:List Expr} {pos:Pos} {g:TG} {tt:TT} {te:TE} (c:qbz X ts M scope) (hc:X.calm=true) (hg:∀ C fp s₀ H₀,PG (cxC X ts M scope C fp s₀ H₀) tg g) (hf:∀ C fp s₀ H₀,PF (cxC X ts M scope C fp s₀ H₀) ifs tt)
   (he:∀ C fp s₀ H₀,PE (cxC X ts M scope C fp s₀ H₀) elt te) {it:Addr} {tn:Nat→Heap→Prop} {J:It} {Fin:List V→Hp→Prop} (I:Inv X pins σ H s) (T:Turn X.prog X.w X.K tg J fp it tn) (t0:tn 0 s.heap) (f0:∀ b ∈ fp,qg6 X pins H b) (hw:LcW J ts.length g tt te σ H Fin)
   {RR:Value→Addr→Result→Shared→Prop}
   (hRR:∀ (D C:Addr) (H':Hp) (s':Shared) (ys:List V) (m:Str→Option Value),Inv X pins σ (upd H' D (.lst ys)) s'→s'.heap.Ns C m→C ≠ X.env.locals→(∀ x a,X.env.cells.lookup x=some a→a ≠ C)→X.s₀.heap.objs.size≤C→upd H' D (.lst ys) C=none→(∀ p ∈ X.pn++pins,p.1 ≠ C)→H' D=none→Fin ys H'→RR (.ref D) C (.ok .next) s') :
   wpAny (model X.prog X.w) X.A (newList []) (fun acc s₃=>wpAny (model X.prog X.w) X.A (newFunctionEnv scope X.env.globals (clo scope X.env) [] X.env.qual none .none (some X.env)) (fun cenv s₄ =>
     codeAny (model X.prog X.w) X.A (.compStart (.ListComp elt [⟨tg,iter,ifs,0⟩] scope pos) 0 (.ref it) acc { cenv with scope:=relabel scope X.env }) (RR acc cenv.locals) s₄) X.xe s₃) X.xe s:=by
 obtain ⟨W,⟨m0,w0⟩,turn⟩:=hw
 have fpo:∀ b ∈ fp,b < s.heap.objs.size:=fun b hb=>by obtain ⟨o,e,_⟩:=T.obj _ _ t0 b hb;exact Heap.lt_size e
 refine wpAny_newObj_type (qo6 ?_)
 dsimp only
 generalize hH2:s.heap.push { cls:=.type "list",dict:=none,data:=.seq ([]:List Value).toArray }=h2
 have hCs:h2.objs.size=s.heap.objs.size+1:=by rw[← hH2,Heap.size_push]
 obtain ⟨C,hCe⟩:∃ C:Nat,h2.objs.size=C:=⟨_,rfl⟩
 obtain ⟨D,hDe⟩:∃ D:Nat,s.heap.objs.size=D:=⟨_,rfl⟩
 have hns₁:=(Heap.Ns.new h2 (.type "dict")).keeps (pushCells_keeps scope.names (h2.push { cls:=.type "dict",data:=.dict #[] }))
 have ok:=cellsFrom_ok scope.names (h2.push { cls:=.type "dict",data:=.dict #[] }) (h2.objs.size+1) [] ⟨fun _ _ hm=>(nomatch hm),List.Pairwise.nil⟩ (by rw[Heap.size_push];exact Nat.le_refl _)
 rw[Heap.size_push]at ok
 rw[hCe]at hns₁ ok ⊢
 rw[hDe]
 rw[hCe,hDe]at hCs
 have hDC:D ≠ C:=by omega
 generalize hh1:pushCells (h2.push { cls:=.type "dict",data:=.dict #[] }) scope.names=h₁ at hns₁ ok ⊢
 have kp:∀ b o,h2.get? b=some o→h₁.get? b=some o:=fun b o e=>by rw[← hh1];exact pushCells_keeps _ _ b o (Heap.get?_push_of_some _ e)
 have old:∀ b u,s.heap.get? b=some u→h₁.get? b=some u:=fun b u e=>kp b u (hH2 ▸ Heap.get?_push_of_some _ e)
 have hacc:h₁.get? D=some { cls:=.type "list",data:=.seq ([]:List Value).toArray 0 }:=by
   refine kp _ _ ?_
   rw[← hH2,← hDe]
   exact Heap.get?_push_size _ rfl
 have hns:h₁.Ns C fun _=>none:=hns₁
 have hO:q3i scope C h₁:=⟨fun x a h=>⟨(ok.empty x a h).1,(ok.empty x a h).2⟩,ok.apart⟩
 have J0:Inv (cxC X ts M scope C fp s H) [] (List.replicate ts.length none++σ) H { s with heap:=h₁,toks:=s.toks }:=I.comp c f0 fpo (by omega) hns hO old
 have hDn:H D=none:=I.hok.fresh (by omega)
 have loop : codeAny (model X.prog X.w) X.A (.compLoop (.ListComp elt [⟨tg,iter,ifs,0⟩] scope pos) 0 (.ref it) (.ref D) (compEnvC scope (cellsFrom (C+1) scope.names (clo scope X.env)) C X.env)) (RR (.ref D) C) { s with heap:=h₁,toks:=s.toks }:=by
   refine qld (fun n s'=>∃ (i:Nat) (σ':St) (H':Hp) (ys:List V) (its:List Value) (k:Nat),Inv (cxC X ts M scope C fp s H) [] σ' H' s'∧σ'.drop ts.length=σ∧tn i s'.heap∧(∀ b ∈ fp,H' b=none)∧H' D=none∧s'.heap.get? D=some { cls:=.type "list",data:=.seq its.toArray k }∧Vals ys its∧W i n ys H') ?_ m0
     ⟨0,_,H,[],[],0,J0,by rw[List.drop_append,List.drop_of_length_le (by simp)];simp,T.keep _ _ _ t0 fun b _ o e=>old b o e,fun b hb=>(f0 b hb).1,hDn,hacc,.nil,w0⟩
   rintro n s1 ⟨i,σ1,H1,ys,its,k,I1,d1,t1,fr1,hD1,hl1,rv1,w1⟩
   obtain ⟨hz,hturn⟩:=turn i n ys H1 w1
   have nDfp:D ∉ fp:=fun z=>by have: @LT.lt Nat _ D s.heap.objs.size:=fpo D z;omega
   have neC:∀ x a,(cellsFrom (C+1) scope.names (clo scope X.env)).lookup x=some a→a ≠ D:=fun x a h z=>by
     have z: @Eq Nat a D:=z
     rcases qbk h with h | ⟨_,h⟩
     · have:=(hO.empty _ _ h).2
       omega
     · obtain ⟨v,q⟩:=I.cell x a (qla (c.has I.ok) h)
       have: @LT.lt Nat _ a s.heap.objs.size:=q.lt
       omega
   have pinD:∀ {H':Hp} {s':Shared} {obj:Obj},s'.heap.get? D=some obj→H' D=none→(∀ v,obj.data ≠ .cell v)→∀ p ∈ [(D,obj)],s'.heap.get? p.1=some p.2∧H' p.1=none∧p.1 ≠ (cxC X ts M scope C fp s H).env.locals∧p.1 ∉ (cxC X ts M scope C fp s H).fs∧∀ v,p.2.data ≠ .cell v:=by
     intro H' s' obj e1 e2 e3 p hp
     have hp:p=(D,obj):=by simpa using hp
     subst hp
     refine⟨e1,e2,hDC,fun z=> ?_,e3⟩
     have z:D ∈ frs X.stack:=z
     rcases List.mem_cons.mp (I.stkSub D z)with e | e
     · have: @LT.lt Nat _ X.env.locals s.heap.objs.size:=I.lt
       have e: @Eq Nat D X.env.locals:=e
       omega
     · exact I.nofs (a:=D) (by omega) e
   have I1':=I1.pins_of (pinD hl1 hD1 fun v z=>by cases z)
   have fpk:∀ {H':Hp},(∀ b ∈ fp,H' b=none)→∀ b ∈ fp,qg6 (cxC X ts M scope C fp s H) [(D,{ cls:=.type "list",data:=.seq its.toArray k })] H' b:=fun {H'} fr b hb=>by
     refine⟨fr b hb,fun z=> ?_,I1.ok.exfs b hb,.inl hb,fun x a h=> ?_,fun p hp=> ?_⟩
     · have: @LT.lt Nat _ b s.heap.objs.size:=fpo b hb
       have z: @Eq Nat b C:=z
       omega
     · rcases qbk h with h | ⟨_,h⟩
       · have h1:=(hO.empty _ _ h).2
         have h2: @LT.lt Nat _ b s.heap.objs.size:=fpo b hb
         exact Nat.ne_of_gt (by omega)
       · exact(f0 b hb).2.2.2.2.1 x a (qla (c.has I.ok) h)
     · have hp:p=(D,{ cls:=.type "list",data:=.seq its.toArray k }):=by simpa [cxC]using hp
       subst hp
       rintro rfl
       exact nDfp hb
   rcases hturn with ⟨stop,fin⟩ | ⟨go,N,hN,step⟩
   · refine wpAny_mono (T.done (cxC X ts M scope C fp s H) rfl rfl rfl hc i _ s1 σ1 H1 (fun _ _=>False) I1' (fpk fr1) t1 stop) (fun r s2 ⟨hr,I2⟩=> ?_) fun _ _ z=>z
     subst hr
     have pD:=I2.pin (D,{ cls:=.type "list",data:=.seq its.toArray k }) (by simp)
     obtain ⟨m2,hn2,_⟩:=I2.loc
     refine hRR D C H1 s2 ys m2 (I.comped f0 I2 (by omega) hD1 (by omega) rv1 pD.1) hn2 ?_ (fun x a h=> ?_) ?_ ?_ (fun p hp=> ?_) hD1 fin
     · have: @LT.lt Nat _ X.env.locals s.heap.objs.size:=I.lt
       exact Nat.ne_of_gt (by omega)
     · obtain ⟨v,q⟩:=I.cell x a h
       have: @LT.lt Nat _ a s.heap.objs.size:=q.lt
       exact Nat.ne_of_lt (by omega)
     · have:=I.sz;omega
     · rw[qg (Ne.symm hDC)];exact I2.free
     · have: @LT.lt Nat _ p.1 s.heap.objs.size:=Heap.lt_size (I.pin p hp).1
       exact Nat.ne_of_lt (by omega)
   · refine wpAny_mono (T.item (cxC X ts M scope C fp s H) rfl rfl rfl hc i _ s1 σ1 H1 (fun _ _=>False) I1' (fpk fr1) t1 go) (fun r s2 ⟨u,hr,h2⟩=> ?_) fun _ _ z=>z
     subst hr
     refine wpAny_mono h2 (fun _ s3 ⟨x,H3,I3,r3,y3,t3,fr3⟩=> ?_) fun _ _ z=>z
     have I3':Inv (cxC X ts M scope C fp s H) _ (List.replicate ts.length none++σ) H3 s3:=(I3.pinned (fpk fr3) (T.obj _ _ t3)).weak (by
         have:=I3.len
         have e:σ1.length=(ts++M).length:=I3.len
         rw[List.length_append,List.length_replicate,I.len,e,List.length_append,c.len]) (fun j v e=>by
         have hj:ts.length≤j:=by
           rcases Nat.lt_or_ge j ts.length with z | z
           · rw[List.getElem?_append_left (by simpa using z),List.getElem?_replicate]at e
             split at e <;> cases e
           · exact z
         rw[List.getElem?_append_right (by simpa using hj)]at e
         rw[← d1,List.getElem?_drop]at e
         simp only [List.length_replicate]at e
         rwa [show ts.length+(j - ts.length)=j by omega]at e)
     refine wpAny_mono (hg C fp s H _ s3 _ H3 x u _ I3' r3 (step x H3 y3)) (fun _ s4 ⟨σ4,H4,I4,d4,q4⟩=> ?_) fun _ _ z=>z
     refine wpAny_mono (hf C fp s H _ s4 σ4 H4 _ I4 q4) (fun ok s5 ⟨H5,I5,q5⟩=> ?_) fun _ _ z=>z
     have keepT:∀ {σ7:St} {H7:Hp} {s7:Shared},Inv (cxC X ts M scope C fp s H) ([(D,{ cls:=.type "list",data:=.seq its.toArray k })]++qh1 fp s3.heap) σ7 H7 s7→tn (i+1) s7.heap∧(∀ b ∈ fp,H7 b=none):=fun {σ7 H7 s7} I7 =>
       ⟨T.keep _ _ _ t3 fun b hb o e=>(I7.pin (b,o) (List.mem_append_right _ (List.mem_append_right _ (qc5 hb e)))).1,fun b hb=>by
         obtain ⟨o,e,_⟩:=T.obj _ _ t3 b hb
         exact(I7.pin (b,o) (List.mem_append_right _ (List.mem_append_right _ (qc5 hb e)))).2.1⟩
     cases ok with
     | false =>
       rw[if_neg Bool.false_ne_true]at q5 ⊢
       obtain ⟨m',hm,w'⟩:=hN _ _ q5
       have pD:=I5.pin (D,{ cls:=.type "list",data:=.seq its.toArray k }) (by simp)
       exact⟨m',hm,i+1,σ4,H5,ys,its,k,I5.pins_of (fun p hp=>by simp at hp),d4,(keepT I5).1,(keepT I5).2,pD.2.1,pD.1,rv1,w'⟩
     | true =>
       rw[if_pos rfl]at q5 ⊢
       refine wpAny_mono (he C fp s H _ s5 σ4 H5 _ I5 q5) (fun v s6 ⟨y,H6,I6,r6,q6⟩=> ?_) fun _ _ z=>z
       obtain ⟨m',hm,w'⟩:=hN _ _ q6
       have pD:=I6.pin (D,{ cls:=.type "list",data:=.seq its.toArray k }) (by simp)
       have hlen:=rv1.length
       refine call_meets F.slot_list_append ⟨_,pD.1,rfl⟩ F.entry_list_append (F.args_list_append_2 _ _) (PySem.list_append D its.toArray k v (by rw[List.size_toArray];omega)) ⟨pD.1,?_⟩
       have q:=PySem.IsL.update pD.1 (·.push v)
       rw[show its.toArray.push v=(its++[v]).toArray by simp]at q
       have up:∀ b o,b ≠ D→s6.heap.get? b=some o→(s6.heap.update D (Obj.mapSeq (·.push v))).get? b=some o:=fun b o hb e=>(Heap.get?_update_other s6.heap (Obj.mapSeq (·.push v)) (Ne.symm hb)).trans e
       have I7:Inv (cxC X ts M scope C fp s H) [] σ4 H6 { s6 with heap:=s6.heap.update D (Obj.mapSeq (·.push v)),toks:=s6.toks } :=
         (I6.pins_of (pins':=[]) (fun p hp=>by simp at hp)).turned up pD.2.1 hDC (.inr (by show s.heap.objs.size≤D;omega)) (fun x a h=>neC x a h) (fun p hp=>by simp [cxC]at hp)
       refine⟨m',hm,i+1,σ4,H6,ys++[y],its++[v],_,I7,d4,?_,(keepT I6).2,pD.2.1,q,rv1.append (.cons r6 .nil),w'⟩
       exact T.keep _ _ _ (keepT I6).1 fun b hb o e=>up b o (fun z=>nDfp (z ▸ hb)) e
 exact codeAny_compStart_list loop (T.self _ 0 _ _ _ (T.keep _ _ _ t0 fun b _ o e=>old b o e) loop)
theorem q3j {tg iter elt:Expr} {ifs:List Expr} {pos:Pos} {wi:TI} {g:TG} {tt:TT} {te:TE} (c:qbz X ts M scope) (hc:X.calm=true) (hi:PI X tg iter wi) (hg:∀ C fp s₀ H₀,PG (cxC X ts M scope C fp s₀ H₀) tg g) (hf:∀ C fp s₀ H₀,PF (cxC X ts M scope C fp s₀ H₀) ifs tt)
   (he:∀ C fp s₀ H₀,PE (cxC X ts M scope C fp s₀ H₀) elt te) (hs:∀ x,foldedSetIterable iter X.env x=pure x:=by intro _;rfl):PE X (.ListComp elt [⟨tg,iter,ifs,0⟩] scope pos) (tLC ts.length wi g tt te):=by
 intro pins s σ H Q I h
 rw[eval_ListComp]
 refine wpAny_comprehension_free (use:=none) rfl hs (qtb (c.has I.ok)) c.kind c.loc (thn (hi pins s σ H _ I h) fun v s1 h1=>thn h1 fun itv s2 h2=> ?_)
 obtain ⟨it,fp,tn,J,H2,rfl,I2,T,t0,f0,hw⟩:=h2
 refine qmz (RR:=fun acc C=>compPost (model X.prog X.w) X.A X.xe none (EP X pins σ Q) acc C) c hc hg hf he I2 T t0 f0 hw ?_
 intro D C H' s' ys m I' hn n1 n2 n3 n4 n5 hD fin
 exact⟨m,hn,fun h' hs'=>⟨.ref D,_,I'.turned (t':=s'.toks) (fun b o hb e=>(hs'.2 b hb).trans e) n4 n1 (.inr n3) n2 n5,rfl,fin D hD⟩⟩
theorem qtc {i:Nat} {x:Str} {tg iter elt:Expr} {ifs:List Expr} {pos pos' spos:Pos} {wi:TI} {g:TG} {tt:TT} {te:TE} (hN:X.N.Nodup) (hix:X.N[i]? =some x) (hx:Loc X.env.scope x) (c:qbz X ts M scope) (hc:X.calm=true) (hi:PI X tg iter wi) (hg:∀ C fp s₀ H₀,PG (cxC X ts M scope C fp s₀ H₀) tg g) (hf:∀ C fp s₀ H₀,PF (cxC X ts M scope C fp s₀ H₀) ifs tt)
   (he:∀ C fp s₀ H₀,PE (cxC X ts M scope C fp s₀ H₀) elt te) (hs:∀ x,foldedSetIterable iter X.env x=pure x:=by intro _;rfl) (hsw:swapsWith (.ListComp elt [⟨tg,iter,ifs,0⟩] scope pos) (some (.Name x pos')) spos.line X.env=pure true:=by rfl)
   (hfn:X.fn x=true∨X.env.scope.names.lookup x=some .local:=by first | exact .inl rfl | exact .inr rfl | assumption) :
   PS X (.Assign [.Name x pos'] (.ListComp elt [⟨tg,iter,ifs,0⟩] scope pos) spos) (qst (tLC ts.length wi g tt te) (qmt i)):=by
 intro pins s σ H Dn I h
 rw[exec_Assign_Name_used _ _ _ _ hsw]
 refine wpAny_bind (wpAny_standAt (wpAny_bind ?_))
 show wpAny _ X.A (do let _ ← comprehension (.ListComp elt [⟨tg,iter,ifs,0⟩] scope pos) scope X.env _ (newList []) false (eval iter X.env) (some (assign (.Name x pos') X.env))) _ _ s
 refine wpAny_bind (wpAny_mono (wpAny_comprehension_free (use:=some (assign (.Name x pos') X.env)) (Q:=fun _ s'=>SP X pins Dn .next s') rfl hs (qtb (c.has I.ok)) c.kind c.loc
   (thn (hi pins s σ H _ I h) fun v s1 h1=>thn h1 fun itv s2 h2=> ?_)) (fun _ s' hq=>wpAny_pure (wpAny_pure hq)) fun _ _ e=>e)
 obtain ⟨it,fp,tn,J,H2,rfl,I2,T,t0,f0,hw⟩:=h2
 refine qmz (RR:=fun acc C=>compPost (model X.prog X.w) X.A X.xe (some (assign (.Name x pos') X.env)) (fun _ s'=>SP X pins Dn .next s') acc C) c hc hg hf he I2 T t0 f0 hw ?_
 intro D C H' s' ys m I' hn n1 n2 n3 n4 n5 hD fin
 show wpAny _ X.A (assign (.Name x pos') X.env (.ref D)) _ _ _
 refine wpAny_assign_Name (qj4 I' hN hix hx (v:=.ref D) rfl (fun s'' I'' hsb=> ?_) hfn)
 obtain ⟨a,hsb,ha⟩:=hsb
 have hCa:C ≠ a:=by
   rcases ha with rfl | ha
   · exact n1
   · exact(n2 x a ha).symm
 refine⟨m,hn.sameBut hsb hCa,fun h' hs'=>⟨_,_,I''.turned (t':=s''.toks) (fun b o hb e=>(hs'.2 b hb).trans e) n4 n1 (.inr n3) n2 n5,fin D hD⟩⟩
end
theorem q3k {J:It} {k n:Nat} {g:TG} {tt:TT} {te:TE} {σ:St} {H:Hp} {Fin:List V→Hp→Prop} (Pv:Nat→List V→Hp→Prop) (hk:k < sizeLine) (h0:Pv 0 [] H) (hl:∀ i ys H,i≤k→Pv i ys H→ys.length≤i)
   (stop:∀ ys H,Pv k ys H→J.stop k H) (go:∀ i ys H,i < k→Pv i ys H→J.go i H)
   (hs:∀ i ys H,i < k→Pv i ys H→∀ x H',J.yld i H x H'→g x (List.replicate n none++σ) H' fun σ2 H2=>σ2.drop n=σ∧tt σ2 H2 fun c H3=>if c=true then te σ2 H3 fun y H4=>Pv (i+1) (ys++[y]) H4 else Pv (i+1) ys H3)
   (hd:∀ ys H,Pv k ys H→Fin ys H):LcW J n g tt te σ H Fin:=by
 refine⟨fun i m ys H=>m=k - i∧i≤k∧Pv i ys H,⟨k,by simp,Nat.zero_le _,h0⟩,?_⟩
 rintro i m ys H ⟨rfl,hi,p⟩
 have hz:=hl i ys H hi p
 refine⟨by omega,?_⟩
 by_cases hlt:i < k
 · exact .inr ⟨go i ys H hlt p,Pv (i+1),fun ys' H' q=>⟨_,(by omega:k - (i+1) < k - i),rfl,hlt,q⟩,fun x H' y=>hs i ys H hlt p x H' y⟩
 · have e:i=k:=by omega
   subst e
   exact .inl ⟨stop ys H p,hd ys H p⟩
section
variable {X:Cx} {pins:List (Addr × Obj)} {σ:St} {H:Hp} {s:Shared}
theorem Inv.turnedT {h':Heap} {t':Nat} {ch:List Addr} {vs:List V} {its:List Value} (I:Inv X pins σ H s) (hf:∀ b ∈ ch,qg6 X pins H b) (k:∀ b o,b ∉ ch→s.heap.get? b=some o→h'.get? b=some o)
   (ht:∀ b ∈ ch,∃ o,h'.get? b=some o) (rv:Vals vs its) (hz:vs.length≤sizeLine) (new:IsTup h' s.heap.objs.size its.toArray):Inv X pins σ (upd H s.heap.objs.size (.tup vs)) { s with heap:=h',toks:=t' }:=by
 have hn:H s.heap.objs.size=none:=I.hok.fresh (Nat.le_refl _)
 have nch:∀ b u,H b=some u→b ∉ ch:=fun b u e z=>by rw[(hf b z).1]at e;cases e
 have np:∀ b o,s.heap.get? b=some o→b ≠ s.heap.objs.size:=fun b o e=>Nat.ne_of_lt (Heap.lt_size e)
 refine I.step (g':=s.gens) (d':=s.drawn) (ch:=ch) (fun b hb=>⟨(hf b hb).2.2.2.1,(hf b hb).2.1,(hf b hb).2.2.2.2.1,(hf b hb).2.2.2.2.2⟩) (fun b o _ _ hc e _=>k b o hc e) (fun b o _ _ hc e _=>⟨o.slots,k b o hc e⟩) (fun b o _ e n=>by rw[qg (np b o e)];exact n)
   (fun b o hc e=>⟨o,k b o hc e⟩) (fun b xs e=>by rw[qg (qab e hn)];exact e) (fun b o u e=>by rw[qg (qab e hn)];exact e) (fun b ps e=>⟨#[],by rw[qg (qab e hn),e];simp⟩) (fun m hm=> ?_) (fun b u e=> ?_) I.bare
 · obtain ⟨o,es,ep,ho,r⟩:=hm
   exact⟨o,es,ep,k _ o (fun z=>(hf _ z).2.1 rfl) ho,r⟩
 · by_cases hb:b=s.heap.objs.size
   · subst hb
     rw[qj]at e;cases e
     exact⟨hz,its,rv,new⟩
   · rw[qg hb]at e
     refine(I.hok b u e).stay (fun c v hc q=>k c v ?_ q) (fun c q=>by rw[qg (qab q hn)];exact q) fun c xs q=>by rw[qg (qab q hn)];exact q
     rcases hc with z | z
     · rw[z];exact nch b u e
     · exact nch c _ z
theorem Inv.turnedN {h':Heap} {t':Nat} {ch:List Addr} (I:Inv X pins σ H s) (hf:∀ b ∈ ch,qg6 X pins H b) (k:∀ b o,b ∉ ch→s.heap.get? b=some o→h'.get? b=some o):Inv X pins σ H { s with heap:=h',toks:=t' }:=by
 have nch:∀ b u,H b=some u→b ∉ ch:=fun b u e z=>by rw[(hf b z).1]at e;cases e
 refine I.step (g':=s.gens) (d':=s.drawn) (ch:=ch) (fun b hb=>⟨(hf b hb).2.2.2.1,(hf b hb).2.1,(hf b hb).2.2.2.2.1,(hf b hb).2.2.2.2.2⟩) (fun b o _ _ hc e _=>k b o hc e) (fun b o _ _ hc e _=>⟨o.slots,k b o hc e⟩) (fun b o _ e n=>n)
   (fun b o hc e=>⟨o,k b o hc e⟩) (fun b xs e=>e) (fun b o u e=>e) (fun b ps e=>⟨#[],by rw[e];simp⟩) (fun m hm=> ?_) (fun b u e=> ?_) I.bare
 · obtain ⟨o,es,ep,ho,r⟩:=hm
   exact⟨o,es,ep,k _ o (fun z=>(hf _ z).2.1 rfl) ho,r⟩
 · refine(I.hok b u e).stay (fun c v hc q=>k c v ?_ q) (fun c q=>q) fun c xs q=>q
   rcases hc with z | z
   · rw[z];exact nch b u e
   · exact nch c _ z
end
noncomputable def q8 (b:Bool) (h:Heap) (it l:Addr) (i:Nat):Prop:=if b=true then h.IsListIter it l i else h.IsTupleIter it l i
noncomputable def qb0 (b:Bool) (h:Heap) (l:Addr) (items:Array Value):Prop:=if b=true then h.IsList l items else h.IsTuple l items
theorem q8.at' {b:Bool} {h h':Heap} {it l:Addr} {i:Nat} (x:q8 b h it l i) (k:∀ o,h.get? it=some o→h'.get? it=some o):q8 b h' it l i:=by
 cases b with
 | true=>exact Heap.IsListIter.at (show h.IsListIter it l i from x) k
 | false=>exact Heap.IsTupleIter.at (show h.IsTupleIter it l i from x) k
theorem q8.here {b:Bool} {h:Heap} {it l:Addr} {i:Nat} (x:q8 b h it l i):∃ o,h.get? it=some o∧∀ v,o.data ≠ .cell v:=by
 cases b with
 | true =>
   obtain ⟨o,e,c,d⟩:=(show h.IsListIter it l i from x)
   exact⟨o,e,fun v z=>by rw[d]at z;cases z⟩
 | false =>
   obtain ⟨o,e,c,d⟩:=(show h.IsTupleIter it l i from x)
   exact⟨o,e,fun v z=>by rw[d]at z;cases z⟩
theorem qb0.at' {b:Bool} {h h':Heap} {l:Addr} {items:Array Value} (x:qb0 b h l items) (k:∀ o,h.get? l=some o→h'.get? l=some o):qb0 b h' l items:=by
 cases b with
 | true=>obtain ⟨o,e,r⟩:=(show h.IsList l items from x);exact⟨o,k o e,r⟩
 | false=>obtain ⟨o,e,r⟩:=(show h.IsTuple l items from x);exact⟨o,k o e,r⟩
section
variable {prog:Program} {w:World} {A:Around} {E:Value→Shared→Prop} {s:Shared}
theorem qfb {it l:Addr} {i:Nat} {items:Array Value} {x:Value} {Q:Value→Shared→Prop} (hit:s.heap.IsTupleIter it l i) (hl:s.heap.IsTuple l items) (hx:items[i]? =some x)
   (hQ:∀ h',h'.IsTupleIter it l (i+1)→Heap.SameBut it s.heap h'→Q x { s with heap:=h' }):wpAny (model prog w) A (Builtin.SmallTypes.nextOf (.ref it)) Q E s:=by
 obtain ⟨o,ho,hc,hd⟩:=id hit
 obtain ⟨ol,hol,_,nl,hdl⟩:=hl
 unfold Builtin.SmallTypes.nextOf
 refine wpAny_bind (wpAny_callSpecial?_slot (name:=Str.ofString "__next__") hit.typeIs F.slot_tuple_iterator_next (wpAny_call_entry F.slot_tuple_iterator_next hit.typeIs F.entry_tuple_iterator_next ?_ (F.args_tuple_iterator_next_1 _)))
 show wpAny _ _ (field (.ref it) 0 >>= _) _ _ s
 refine wpAny_bind (wpAny_field ho hd (x:=.ref l) rfl ?_)
 show wpAny _ _ (if (Value.ref l==Value.none)=true then _ else _) _ _ s
 rw[if_neg (by simp:¬ ((Value.ref l==Value.none)=true))]
 show wpAny _ _ (field (.ref it) 1 >>= _) _ _ s
 refine wpAny_bind (wpAny_field ho hd (x:=.int i 0) rfl ?_)
 show wpAny _ _ (seqItems? (.ref l) >>= _) _ _ s
 refine wpAny_bind (wpAny_seqItems hol hdl ?_)
 simp only [Int.toNat_natCast,hx]
 refine wpAny_bind (wpAny_setField ho hd (by simp) (wpAny_pure ⟨x,rfl,wpAny_pure (hQ _ ?_ (Heap.SameBut.update ..))⟩))
 exact⟨_,Heap.get?_update_self _ ho (Obj.isFreed_of_fields (Obj.data_mapFields hd _)),(Obj.cls_mapFields ..).trans hc,by rw[Obj.data_mapFields hd];simp [rawInt]⟩
end
section
variable {prog:Program} {w:World} {A:Around} {E:Value→Shared→Prop} {s:Shared}
theorem qf2 {it l:Addr} {i:Nat} {items:Array Value} {Q:Value→Shared→Prop} (hh:A.handled=none) (hit:s.heap.IsTupleIter it l i) (hl:s.heap.IsTuple l items) (hx:items[i]? =none)
   (hE:∀ h' e,Heap.ExtBut it s.heap h'→(∃ o,h'.get? e=some o∧o.cls=.type "StopIteration")→E (.ref e) { s with heap:=h' }):wpAny (model prog w) A (Builtin.SmallTypes.nextOf (.ref it)) Q E s:=by
 obtain ⟨o,ho,hc,hd⟩:=id hit
 obtain ⟨ol,hol,_,nl,hdl⟩:=hl
 unfold Builtin.SmallTypes.nextOf
 refine wpAny_bind (wpAny_callSpecial?_slot (name:=Str.ofString "__next__") hit.typeIs F.slot_tuple_iterator_next (wpAny_call_entry F.slot_tuple_iterator_next hit.typeIs F.entry_tuple_iterator_next ?_ (F.args_tuple_iterator_next_1 _)))
 show wpAny _ _ (field (.ref it) 0 >>= _) _ _ s
 refine wpAny_bind (wpAny_field ho hd (x:=.ref l) rfl ?_)
 show wpAny _ _ (if (Value.ref l==Value.none)=true then _ else _) _ _ s
 rw[if_neg (by simp:¬ ((Value.ref l==Value.none)=true))]
 show wpAny _ _ (field (.ref it) 1 >>= _) _ _ s
 refine wpAny_bind (wpAny_field ho hd (x:=.int i 0) rfl ?_)
 show wpAny _ _ (seqItems? (.ref l) >>= _) _ _ s
 refine wpAny_bind (wpAny_seqItems hol hdl ?_)
 simp only [Int.toNat_natCast,hx]
 refine wpAny_bind (wpAny_rule (wpAny_bind (wpAny_setField ho hd (by simp) ?_)))
 show wpAny _ _ (newExc (.type "StopIteration") [] >>= _) _ _ _
 refine wpAny_bind ?_
 simp only [newExc,newTuple]
 refine wpAny_bind (wpAny_newObj_type ?_ (by size_fits))
 refine wpAny_bind (m:=firstArgMember _ _) (wpAny_of_eq (a:=Value.none) (by first | rfl | (simp only [firstArgMember];rfl)) ?_)
 refine wpAny_newObj_type ?_ (by size_fits)
 simp only [raiseNew]
 refine wpAny_bind (wpAny_handled ?_)
 first | rw[show A.in1.handled=none from hh] | rw[hh]
 refine wpAny_bind (wpAny_pure (wpAny_throw ?_))
 exact hE _ _ (((Heap.SameBut.update ..).extBut.push _).push _) ⟨_,Heap.get?_push_size _ rfl,rfl⟩
theorem qdp {b:Bool} {it l:Addr} {i:Nat} {items:Array Value} {x:Value} {Q:Value→Shared→Prop} (hit:q8 b s.heap it l i) (hl:qb0 b s.heap l items) (hx:items[i]? =some x)
   (hQ:∀ h',q8 b h' it l (i+1)→Heap.SameBut it s.heap h'→Q x { s with heap:=h' }):wpAny (model prog w) A (Builtin.SmallTypes.nextOf (.ref it)) Q E s:=by
 cases b with
 | true=>exact wpAny_nextOf_list_item (show s.heap.IsListIter it l i from hit) (show s.heap.IsList l items from hl) hx fun h' a b=>hQ h' a b
 | false=>exact qfb (show s.heap.IsTupleIter it l i from hit) (show s.heap.IsTuple l items from hl) hx fun h' a b=>hQ h' a b
theorem qh4 {b:Bool} {it l:Addr} {i:Nat} {items:Array Value} {Q:Value→Shared→Prop} (hh:A.handled=none) (hit:q8 b s.heap it l i) (hl:qb0 b s.heap l items) (hx:items[i]? =none)
   (hE:∀ h' e,Heap.ExtBut it s.heap h'→(∃ o,h'.get? e=some o∧o.cls=.type "StopIteration")→E (.ref e) { s with heap:=h' }):wpAny (model prog w) A (Builtin.SmallTypes.nextOf (.ref it)) Q E s:=by
 cases b with
 | true=>exact wpAny_nextOf_list_end hh (show s.heap.IsListIter it l i from hit) (show s.heap.IsList l items from hl) hx hE
 | false=>exact qf2 hh (show s.heap.IsTupleIter it l i from hit) (show s.heap.IsTuple l items from hl) hx hE
theorem qh5 {b1 b2:Bool} {z TI TO i1 i2 l1 l2:Addr} {k1 k2:Nat} {xs ys:Array Value} {x y a b:Value} {Q:Value→Shared→Prop} (D:ZipApart z TI TO i1 i2 l1 l2)
   (hz:IsZip s.heap z TI TO .none) (hTI:IsPair s.heap TI (.ref i1) (.ref i2)) (hTO:IsPair s.heap TO a b) (h1:q8 b1 s.heap i1 l1 k1) (h2:q8 b2 s.heap i2 l2 k2) (hl1:qb0 b1 s.heap l1 xs) (hl2:qb0 b2 s.heap l2 ys) (hx:xs[k1]? =some x) (hy:ys[k2]? =some y)
   (hQ:∀ h',IsZip h' z TI TO (rawInt s.heap.objs.size)→IsPair h' TO x y→q8 b1 h' i1 l1 (k1+1)→q8 b2 h' i2 l2 (k2+1)→IsPair h' s.heap.objs.size x y→h'.objs.size=s.heap.objs.size+1 →
     (∀ c o,c ≠ z→c ≠ TO→c ≠ i1→c ≠ i2→s.heap.get? c=some o→h'.get? c=some o)→Q (.ref s.heap.objs.size) { s with heap:=h' }) :
   wpAny (model prog w) A (Builtin.«zip.__next__» ⟨[.ref z],[]⟩) (fun fin s'=>∃ v,fin=.done (.ret v)∧Q v s') E s:=by
 show wpAny _ _ (field (.ref z) 2 >>= _) _ _ _
 refine wpAny_bind (wpAny_field hz rfl (x:=.bool false) rfl ?_)
 show wpAny _ _ (field (.ref z) 3 >>= _) _ _ _
 refine wpAny_bind (wpAny_field hz rfl (x:=.ref TI) rfl ?_)
 refine wpAny_bind (wpAny_seqItems hTI rfl ?_)
 show wpAny _ _ (Builtin.SmallTypes.ownedTupleIsFree (.ref z) >>= _) _ _ _
 refine wpAny_bind ?_
 unfold Builtin.SmallTypes.ownedTupleIsFree
 refine wpAny_bind (wpAny_field hz rfl (x:=.none) rfl (wpAny_pure ?_))
 simp only [if_true]
 refine wpAny_bind (wpAny_rule ?_)
 refine wpAny_bind (wpAny_field hz rfl (x:=.ref TO) rfl ?_)
 refine wpAny_bind (wpAny_setField_rec hz (by simp) fun h₁ hz₁ hs₁=> ?_)
 replace hz₁:IsZip h₁ z TI TO .ellipsis:=hz₁
 refine wpAny_bind ?_
 simp only [List.zipIdx_cons,List.zipIdx_nil,List.forIn_cons,List.forIn_nil]
 refine wpAny_bind (wpAny_bind (wpAny_onRaise ?_))
 show wpAny _ _ (Builtin.SmallTypes.nextOf (.ref i1) >>= _) _ _ _
 refine wpAny_bind (qdp (h1.at' fun o e=>hs₁.extBut _ _ D.i1z e) (hl1.at' fun o e=>hs₁.extBut _ _ D.l1z e) hx fun h₂ h1₂ hs₂=>wpAny_pure ?_)
 have hTO₂:IsPair h₂ TO a b:=hs₂.extBut _ _ D.TOi1 (hs₁.extBut _ _ D.TOz hTO)
 refine wpAny_bind (wpAny_seqItems hTO₂ rfl ?_)
 refine wpAny_bind (wpAny_updateSeq_pair hTO₂ fun h₃ hTO₃ hs₃=> ?_)
 replace hTO₃:IsPair h₃ TO x b:=hTO₃
 refine wpAny_bind (wpAny_letGo (wpAny_pure ?_))
 refine wpAny_bind (wpAny_bind (wpAny_onRaise ?_))
 show wpAny _ _ (Builtin.SmallTypes.nextOf (.ref i2) >>= _) _ _ _
 refine wpAny_bind (qdp (h2.at' fun o e=>hs₃.extBut _ _ D.TOi2.symm (hs₂.extBut _ _ D.i12.symm (hs₁.extBut _ _ D.i2z e))) (hl2.at' fun o e=>hs₃.extBut _ _ D.l2TO (hs₂.extBut _ _ D.l2i1 (hs₁.extBut _ _ D.l2z e))) hy fun h₄ h2₄ hs₄=>wpAny_pure ?_)
 have hTO₄:IsPair h₄ TO x b:=hs₄.extBut _ _ D.TOi2 hTO₃
 refine wpAny_bind (wpAny_seqItems hTO₄ rfl ?_)
 refine wpAny_bind (wpAny_updateSeq_pair hTO₄ fun h₅ hTO₅ hs₅=> ?_)
 replace hTO₅:IsPair h₅ TO x y:=hTO₅
 refine wpAny_bind (wpAny_letGo (wpAny_pure (wpAny_pure ?_)))
 refine wpAny_bind (wpAny_seqItems hTO₅ rfl ?_)
 refine wpAny_bind (wpAny_newTuple ?_)
 have hsz:h₅.objs.size=s.heap.objs.size:=by rw[hs₅.1,hs₄.1,hs₃.1,hs₂.1,hs₁.1]
 have hz₅:IsZip h₅ z TI TO .ellipsis:=hs₅.extBut _ _ D.TOz.symm (hs₄.extBut _ _ D.i2z.symm (hs₃.extBut _ _ D.TOz.symm (hs₂.extBut _ _ D.i1z.symm hz₁)))
 have hk₅:∀ c o,c ≠ z→c ≠ TO→c ≠ i1→c ≠ i2→s.heap.get? c=some o→h₅.get? c=some o:=fun c o c1 c2 c3 c4 e=>hs₅.extBut _ _ c2 (hs₄.extBut _ _ c4 (hs₃.extBut _ _ c2 (hs₂.extBut _ _ c3 (hs₁.extBut _ _ c1 e))))
 have h1₅:q8 b1 h₅ i1 l1 (k1+1):=h1₂.at' fun o e=>hs₅.extBut _ _ D.TOi1.symm (hs₄.extBut _ _ D.i12 (hs₃.extBut _ _ D.TOi1.symm e))
 have h2₅:q8 b2 h₅ i2 l2 (k2+1):=h2₄.at' fun o e=>hs₅.extBut _ _ D.TOi2.symm e
 have hzlt:z < h₅.objs.size:=Heap.lt_size hz₅
 show wpAny _ _ (Builtin.SmallTypes.ownedTupleHandOut (.ref z) (.ref h₅.objs.size) >>= _) _ _ _
 refine wpAny_bind ?_
 unfold Builtin.SmallTypes.ownedTupleHandOut
 have hz₆:IsZip (h₅.push { cls:=.type "tuple",data:=.seq #[x,y] }) z TI TO .ellipsis:=Heap.get?_push_of_some _ hz₅
 refine wpAny_bind (wpAny_setField_rec hz₆ (by simp) fun h₇ hz₇ hs₇=> ?_)
 replace hz₇:IsZip h₇ z TI TO (rawInt h₅.objs.size):=hz₇
 refine wpAny_setField_rec hz₇ (by simp) fun h₈ hz₈ hs₈=> ?_
 replace hz₈:IsZip h₈ z TI TO (rawInt h₅.objs.size):=hz₈
 have up:∀ c o,c ≠ z→h₅.get? c=some o→h₈.get? c=some o:=fun c o c1 e=>hs₈.extBut _ _ c1 (hs₇.extBut _ _ c1 (Heap.get?_push_of_some _ e))
 have hT₈:IsPair h₈ h₅.objs.size x y:=hs₈.extBut _ _ (Nat.ne_of_gt hzlt) (hs₇.extBut _ _ (Nat.ne_of_gt hzlt) (Heap.get?_push_size _ rfl))
 have hz8:h₈.objs.size=h₅.objs.size+1:=by rw[hs₈.1,hs₇.1,Heap.size_push]
 rw[hsz]at hz₈ hT₈ hz8
 refine wpAny_pure ⟨_,rfl,?_⟩
 show Q (.ref h₅.objs.size) _
 rw[hsz]
 exact hQ h₈ hz₈ (up _ _ D.TOz hTO₅) (h1₅.at' fun o e=>up _ o D.i1z e) (h2₅.at' fun o e=>up _ o D.i2z e) hT₈ hz8 fun c o c1 c2 c3 c4 e=>up c o c1 (hk₅ c o c1 c2 c3 c4 e)
theorem qji {b1 b2:Bool} {z TI TO i1 i2 l1 l2:Addr} {k1 k2:Nat} {xs ys:Array Value} {a b:Value} {Q:Fin→Shared→Prop} (hh:A.handled=none) (D:ZipApart z TI TO i1 i2 l1 l2)
   (hz:IsZip s.heap z TI TO .none) (hTI:IsPair s.heap TI (.ref i1) (.ref i2)) (hTO:IsPair s.heap TO a b) (h1:q8 b1 s.heap i1 l1 k1) (h2:q8 b2 s.heap i2 l2 k2) (hl1:qb0 b1 s.heap l1 xs) (hl2:qb0 b2 s.heap l2 ys) (hend:xs[k1]? =none∨ys[k2]? =none)
   (hE:∀ h' e,(∀ c o,c ≠ z→c ≠ TO→c ≠ i1→c ≠ i2→s.heap.get? c=some o→h'.get? c=some o)→(∃ o,h'.get? e=some o∧o.cls=.type "StopIteration")→E (.ref e) { s with heap:=h' }) :
   wpAny (model prog w) A (Builtin.«zip.__next__» ⟨[.ref z],[]⟩) Q E s:=by
 show wpAny _ _ (field (.ref z) 2 >>= _) _ _ _
 refine wpAny_bind (wpAny_field hz rfl (x:=.bool false) rfl ?_)
 show wpAny _ _ (field (.ref z) 3 >>= _) _ _ _
 refine wpAny_bind (wpAny_field hz rfl (x:=.ref TI) rfl ?_)
 refine wpAny_bind (wpAny_seqItems hTI rfl ?_)
 show wpAny _ _ (Builtin.SmallTypes.ownedTupleIsFree (.ref z) >>= _) _ _ _
 refine wpAny_bind ?_
 unfold Builtin.SmallTypes.ownedTupleIsFree
 refine wpAny_bind (wpAny_field hz rfl (x:=.none) rfl (wpAny_pure ?_))
 simp only [if_true]
 refine wpAny_bind (wpAny_rule ?_)
 refine wpAny_bind (wpAny_field hz rfl (x:=.ref TO) rfl ?_)
 refine wpAny_bind (wpAny_setField_rec hz (by simp) fun h₁ hz₁ hs₁=> ?_)
 replace hz₁:IsZip h₁ z TI TO .ellipsis:=hz₁
 refine wpAny_bind ?_
 simp only [List.zipIdx_cons,List.zipIdx_nil,List.forIn_cons,List.forIn_nil]
 refine wpAny_bind (wpAny_bind (wpAny_onRaise ?_))
 show wpAny _ _ (Builtin.SmallTypes.nextOf (.ref i1) >>= _) _ _ _
 have h1₁:=h1.at' (h':=h₁) fun o e=>hs₁.extBut _ _ D.i1z e
 have hl1₁:=hl1.at' (h':=h₁) fun o e=>hs₁.extBut _ _ D.l1z e
 cases hx:xs[k1]? with
 | none =>
   refine wpAny_bind (qh4 hh h1₁ hl1₁ hx fun h₂ e hs₂ he=> ?_)
   obtain ⟨oe,hoe,hce⟩:=he
   have hz₂:IsZip h₂ z TI TO .ellipsis:=hs₂ _ _ D.i1z.symm hz₁
   have hez:e ≠ z:=fun x=>by subst x;rw[hz₂]at hoe;cases hoe;simp at hce
   exact wpAny_setField_rec hz₂ (by simp) fun h₃ _ hs₃=>hE h₃ e (fun c o c1 _ c3 _ x=>hs₃.extBut _ _ c1 (hs₂ _ _ c3 (hs₁.extBut _ _ c1 x))) ⟨oe,hs₃.extBut _ _ hez hoe,hce⟩
 | some x =>
   have hy:ys[k2]? =none:=by rcases hend with h | h;rw[hx]at h;cases h;exact h
   refine wpAny_bind (qdp h1₁ hl1₁ hx fun h₂ h1₂ hs₂=>wpAny_pure ?_)
   have hTO₂:IsPair h₂ TO a b:=hs₂.extBut _ _ D.TOi1 (hs₁.extBut _ _ D.TOz hTO)
   refine wpAny_bind (wpAny_seqItems hTO₂ rfl ?_)
   refine wpAny_bind (wpAny_updateSeq_pair hTO₂ fun h₃ hTO₃ hs₃=> ?_)
   refine wpAny_bind (wpAny_letGo (wpAny_pure ?_))
   refine wpAny_bind (wpAny_bind (wpAny_onRaise ?_))
   show wpAny _ _ (Builtin.SmallTypes.nextOf (.ref i2) >>= _) _ _ _
   refine wpAny_bind (qh4 hh (h2.at' fun o e=>hs₃.extBut _ _ D.TOi2.symm (hs₂.extBut _ _ D.i12.symm (hs₁.extBut _ _ D.i2z e))) (hl2.at' fun o e=>hs₃.extBut _ _ D.l2TO (hs₂.extBut _ _ D.l2i1 (hs₁.extBut _ _ D.l2z e))) hy fun h₄ e hs₄ he=> ?_)
   obtain ⟨oe,hoe,hce⟩:=he
   have hz₄:IsZip h₄ z TI TO .ellipsis:=hs₄ _ _ D.i2z.symm (hs₃.extBut _ _ D.TOz.symm (hs₂.extBut _ _ D.i1z.symm hz₁))
   have hez:e ≠ z:=fun x=>by subst x;rw[hz₄]at hoe;cases hoe;simp at hce
   exact wpAny_setField_rec hz₄ (by simp) fun h₅ _ hs₅=>hE h₅ e (fun c o c1 c2 c3 c4 x=>hs₅.extBut _ _ c1 (hs₄ _ _ c4 (hs₃.extBut _ _ c2 (hs₂.extBut _ _ c3 (hs₁.extBut _ _ c1 x))))) ⟨oe,hs₅.extBut _ _ hez hoe,hce⟩
theorem qm0 {b:Bool} {l:Addr} {items:Array Value} {Q:Value→Shared→Prop} (hl:qb0 b s.heap l items)
   (hQ:Q (.ref s.heap.objs.size) { s with heap:=s.heap.push { cls:=.type (if b=true then "list_iterator" else "tuple_iterator"),data:=.fields #[.ref l,.int 0 0] } }):wpAny (model prog w) A (pyIter (.ref l)) Q E s:=by
 cases b with
 | true=>exact wpAny_pyIter_list (show s.heap.IsList l items from hl) hQ
 | false=>exact wpAny_pyIter_tuple (show s.heap.IsTuple l items from hl) hQ
theorem q8.new {b:Bool} {h:Heap} {l:Addr}:q8 b (h.push { cls:=.type (if b=true then "list_iterator" else "tuple_iterator"),data:=.fields #[.ref l,.int 0 0] }) h.objs.size l 0:=by
 cases b with
 | true=>exact⟨_,Heap.get?_push_size _ rfl,rfl,rfl⟩
 | false=>exact⟨_,Heap.get?_push_size _ rfl,rfl,rfl⟩
theorem qb0.push {b:Bool} {h:Heap} {l:Addr} {items:Array Value} {o:Obj} (x:qb0 b h l items):qb0 b (h.push o) l items:=x.at' fun _ e=>Heap.get?_push_of_some _ e
noncomputable abbrev qtd (b1:Bool) (h:Heap) (l1:Addr):Heap:=h.push { cls:=.type (if b1=true then "list_iterator" else "tuple_iterator"),data:=.fields #[.ref l1,.int 0 0] }
noncomputable abbrev qte (b1 b2:Bool) (h:Heap) (l1 l2:Addr):Heap:=(qtd b1 h l1).push { cls:=.type (if b2=true then "list_iterator" else "tuple_iterator"),data:=.fields #[.ref l2,.int 0 0] }
noncomputable abbrev qwf (b1 b2:Bool) (h:Heap) (l1 l2:Addr):Heap:=(qte b1 b2 h l1 l2).push { cls:=.type "tuple",data:=.seq #[.ref h.objs.size,.ref (qtd b1 h l1).objs.size] }
noncomputable abbrev qwg (b1 b2:Bool) (h:Heap) (l1 l2:Addr):Heap:=(qwf b1 b2 h l1 l2).push { cls:=.type "tuple",data:=.seq #[.none,.none] }
noncomputable abbrev qo7 (b1 b2:Bool) (h:Heap) (l1 l2:Addr):Heap:=(qwg b1 b2 h l1 l2).push { cls:=.type "zip",data:=.fields #[.none,.bool false,.bool false,.ref (qte b1 b2 h l1 l2).objs.size,.ref (qwf b1 b2 h l1 l2).objs.size] }
theorem qh6 (b1 b2:Bool) (l1 l2:Addr) (xs ys:Array Value) :
   Meets (Builtin.«zip.__new__» ⟨[.type "zip",.ref l1,.ref l2],[]⟩) (fun _ R s=>qb0 b1 s.heap l1 xs∧qb0 b2 s.heap l2 ys ∧
     R (.ok (.ret (.ref (qwg b1 b2 s.heap l1 l2).objs.size))) { s with heap:=qo7 b1 b2 s.heap l1 l2 }) :=
 .of_wp fun prog w A R s h=>by
   obtain ⟨hp,g,d,tk,os⟩:=s;obtain ⟨hl1,hl2,h⟩:=h
   have hsub:=sub_zip
   have hL1:qb0 b1 (Shared.heap ⟨hp,g,d,tk,os⟩) l1 xs:=hl1
   have hL2:qb0 b2 (Shared.heap ⟨qtd b1 hp l1,g,d,tk,os⟩) l2 ys:=qb0.push hl2
   wp_walk using qm0 hL1,qm0 hL2
   exact⟨_,rfl,h⟩
end
section
variable {prog:Program} {w:World} {A:Around} {E:Value→Shared→Prop} {s:Shared}
theorem qrh {b1 b2:Bool} {l1 l2:Addr} {xs ys:Array Value} {Q:Value→Shared→Prop} (hl1:qb0 b1 s.heap l1 xs) (hl2:qb0 b2 s.heap l2 ys)
   (h:∀ h',IsZip h' (s.heap.objs.size+4) (s.heap.objs.size+2) (s.heap.objs.size+3) .none→IsPair h' (s.heap.objs.size+2) (.ref s.heap.objs.size) (.ref (s.heap.objs.size+1)) →
     IsPair h' (s.heap.objs.size+3) .none .none→q8 b1 h' s.heap.objs.size l1 0→q8 b2 h' (s.heap.objs.size+1) l2 0 →
     (∀ c o,s.heap.get? c=some o→h'.get? c=some o)→Q (.ref (s.heap.objs.size+4)) { s with heap:=h' }) :
   wpAny (model prog w) A (call (.type "zip") [.ref l1,.ref l2]) Q E s:=by
 refine callType_new F.called_zip (by decide) (F.typeCall_zip_2 _ _) (F.newCall_zip_2 _ _) (fun obj=>F.args_object_init_3 obj _ _) F.entry_zip_new (qh6 b1 b2 l1 l2 xs ys) ⟨hl1,hl2,?_⟩
 have z1:(qtd b1 s.heap l1).objs.size=s.heap.objs.size+1:=Heap.size_push ..
 have z2:(qte b1 b2 s.heap l1 l2).objs.size=s.heap.objs.size+2:=by rw[Heap.size_push,z1]
 have z3:(qwf b1 b2 s.heap l1 l2).objs.size=s.heap.objs.size+3:=by rw[Heap.size_push,z2]
 have z4:(qwg b1 b2 s.heap l1 l2).objs.size=s.heap.objs.size+4:=by rw[Heap.size_push,z3]
 have g5:(qo7 b1 b2 s.heap l1 l2).get? (qwg b1 b2 s.heap l1 l2).objs.size=some _:=Heap.get?_push_size _ rfl
 have g4:(qo7 b1 b2 s.heap l1 l2).get? (qwf b1 b2 s.heap l1 l2).objs.size=some _:=Heap.get?_push_of_some _ (Heap.get?_push_size _ rfl)
 have g3:(qo7 b1 b2 s.heap l1 l2).get? (qte b1 b2 s.heap l1 l2).objs.size=some _:=Heap.get?_push_of_some _ (Heap.get?_push_of_some _ (Heap.get?_push_size _ rfl))
 have up2:∀ c o,(qte b1 b2 s.heap l1 l2).get? c=some o→(qo7 b1 b2 s.heap l1 l2).get? c=some o:=fun c o e=>Heap.get?_push_of_some _ (Heap.get?_push_of_some _ (Heap.get?_push_of_some _ e))
 have g2:q8 b2 (qo7 b1 b2 s.heap l1 l2) (qtd b1 s.heap l1).objs.size l2 0:=q8.new.at' fun o e=>up2 _ o e
 have g1:q8 b1 (qo7 b1 b2 s.heap l1 l2) s.heap.objs.size l1 0:=q8.new.at' fun o e=>up2 _ o (Heap.get?_push_of_some _ e)
 show _∧_
 rw[z2,z3,z4]at g5
 rw[z1,z2]at g3
 rw[z3]at g4
 rw[z1]at g2
 rw[z4]
 exact⟨⟨_,g5,rfl⟩,h _ g5 g3 g4 g1 g2 fun c o x=>up2 c o (Heap.get?_push_of_some _ (Heap.get?_push_of_some _ x))⟩
theorem qf3 {b1 b2:Bool} {z TI TO i1 i2 l1 l2:Addr} {k1 k2:Nat} {xs ys:Array Value} {x y a b:Value} {Q:Option Value→Shared→Prop} (D:ZipApart z TI TO i1 i2 l1 l2)
   (hz:IsZip s.heap z TI TO .none) (hTI:IsPair s.heap TI (.ref i1) (.ref i2)) (hTO:IsPair s.heap TO a b) (h1:q8 b1 s.heap i1 l1 k1) (h2:q8 b2 s.heap i2 l2 k2) (hl1:qb0 b1 s.heap l1 xs) (hl2:qb0 b2 s.heap l2 ys) (hx:xs[k1]? =some x) (hy:ys[k2]? =some y)
   (hQ:∀ h',IsZip h' z TI TO (rawInt s.heap.objs.size)→IsPair h' TO x y→q8 b1 h' i1 l1 (k1+1)→q8 b2 h' i2 l2 (k2+1)→IsPair h' s.heap.objs.size x y→h'.objs.size=s.heap.objs.size+1 →
     (∀ c o,c ≠ z→c ≠ TO→c ≠ i1→c ≠ i2→s.heap.get? c=some o→h'.get? c=some o)→Q (some (.ref s.heap.objs.size)) { s with heap:=h' }) :
   wpAny (model prog w) A (pyNext (.ref z)) Q E s:=by
 have hT:s.TypeIs (.ref z) "zip":=⟨_,hz,rfl⟩
 unfold pyNext
 exact wpAny_bind (wpAny_attempt (wpAny_callSpecial?_slot (name:=Str.ofString "__next__") hT F.slot_zip_next (wpAny_call_entry F.slot_zip_next hT F.entry_zip_next
     (qh5 D hz hTI hTO h1 h2 hl1 hl2 hx hy fun h' a1 a2 a3 a4 a5 a6 a7=>wpAny_pure (hQ h' a1 a2 a3 a4 a5 a6 a7)) (F.args_zip_next_1 _))))
theorem qg9 {b1 b2:Bool} {z TI TO i1 i2 l1 l2:Addr} {k1 k2:Nat} {xs ys:Array Value} {a b:Value} {Q:Option Value→Shared→Prop} (hh:A.handled=none) (D:ZipApart z TI TO i1 i2 l1 l2)
   (hz:IsZip s.heap z TI TO .none) (hTI:IsPair s.heap TI (.ref i1) (.ref i2)) (hTO:IsPair s.heap TO a b) (h1:q8 b1 s.heap i1 l1 k1) (h2:q8 b2 s.heap i2 l2 k2) (hl1:qb0 b1 s.heap l1 xs) (hl2:qb0 b2 s.heap l2 ys) (hend:xs[k1]? =none∨ys[k2]? =none)
   (hQ:∀ h',(∀ c o,c ≠ z→c ≠ TO→c ≠ i1→c ≠ i2→s.heap.get? c=some o→h'.get? c=some o)→Q none { s with heap:=h' }):wpAny (model prog w) A (pyNext (.ref z)) Q E s:=by
 have hT:s.TypeIs (.ref z) "zip":=⟨_,hz,rfl⟩
 unfold pyNext
 refine wpAny_bind (wpAny_attempt (wpAny_callSpecial?_slot (name:=Str.ofString "__next__") hT F.slot_zip_next (wpAny_call_entry F.slot_zip_next hT F.entry_zip_next (qji hh D hz hTI hTO h1 h2 hl1 hl2 hend fun h' e hk he=> ?_) (F.args_zip_next_1 _))))
 obtain ⟨o,ho,hc⟩:=he
 refine wpAny_bind (wpAny_isInstance (T:="StopIteration") (b:=true) ⟨o,ho,hc⟩ isSubtype_stop ?_)
 exact wpAny_pure (hQ _ hk)
end
noncomputable def SqS (K:PySem.W.Frag) (b:Bool) (H:Hp) (a:Addr) (xs:List V):Prop:=if b=true then SqL K H a xs else SqT K H a xs
section
variable {X:Cx} {pins:List (Addr × Obj)} {σ:St} {H:Hp} {s:Shared} {a:Addr} {xs ys:List V}
theorem Inv.seqS {b:Bool} (I:Inv X pins σ H s) (h:SqS X.K b H a xs):∃ its:List Value,Vals xs its∧qb0 b s.heap a its.toArray∧xs.length≤sizeLine:=by
 cases b with
 | true =>
   obtain ⟨its,r,p,z⟩:=I.list (show SqL X.K H a xs from h)
   exact⟨its,r,p.isList,z⟩
 | false=>exact I.tuple (show SqT X.K H a xs from h)
theorem Inv.seqS_inj {b:Bool} (I:Inv X pins σ H s) (h:SqS X.K b H a xs) (h':SqS X.K b H a ys):xs=ys:=by
 cases b with
 | true=>exact I.list_inj (show SqL X.K H a xs from h) (show SqL X.K H a ys from h')
 | false=>exact I.tuple_inj (show SqT X.K H a xs from h) (show SqT X.K H a ys from h')
end
noncomputable def Itz (K:PySem.W.Frag) (b1 b2:Bool) (l1 l2:Addr):It :=
 ⟨fun i H=>(∃ xs x,SqS K b1 H l1 xs∧xs[i]? =some x)∧∃ ys y,SqS K b2 H l2 ys∧ys[i]? =some y,
  fun i H v H'=>∃ (p:Addr) (x y:V),H p=none∧v=.ref p∧H'=upd H p (.tup [x,y])∧(∀ xs,SqS K b1 H l1 xs→xs[i]? =some x)∧∀ ys,SqS K b2 H l2 ys→ys[i]? =some y,
  fun i H=>∃ xs ys,SqS K b1 H l1 xs∧SqS K b2 H l2 ys∧(xs.length≤i∨ys.length≤i)⟩
theorem qtf {P:Program} {w:World} {K:PySem.W.Frag} {elts:List Expr} {k:Nat} {pos:Pos} {b1 b2:Bool} {z TI TO i1 i2 l1 l2:Addr} (D:ZipApart z TI TO i1 i2 l1 l2) :
   Turn P w K (.Tuple elts k pos) (Itz K b1 b2 l1 l2) [z,TI,TO,i1,i2] z (fun i h=>IsZip h z TI TO .none∧IsPair h TI (.ref i1) (.ref i2)∧(∃ a b,IsPair h TO a b)∧q8 b1 h i1 l1 i∧q8 b2 h i2 l2 i) where
 mem:=by simp
 obj:=fun i h st c hc=>by
   obtain ⟨hz,hTI,⟨a,b,hTO⟩,h1,h2⟩:=st
   simp only [List.mem_cons,List.not_mem_nil,or_false]at hc
   rcases hc with rfl | rfl | rfl | rfl | rfl
   · exact⟨_,hz,fun v q=>by cases q⟩
   · exact⟨_,hTI,fun v q=>by cases q⟩
   · exact⟨_,hTO,fun v q=>by cases q⟩
   · exact h1.here
   · exact h2.here
 keep:=fun i h h' st kk=>by
   obtain ⟨hz,hTI,⟨a,b,hTO⟩,h1,h2⟩:=st
   exact⟨kk z (by simp) _ hz,kk TI (by simp) _ hTI,⟨a,b,kk TO (by simp) _ hTO⟩,h1.at' fun o q=>kk i1 (by simp) o q,h2.at' fun o q=>kk i2 (by simp) o q⟩
 item:=by
   intro X hP hw hK hc i pins s σ H E I hf st hg
   subst hP hw hK
   obtain ⟨hz,hTI,⟨a,b,hTO⟩,h1,h2⟩:=st
   obtain ⟨⟨xs,x,hq,hx⟩,ys,y,hq',hy⟩:=hg
   obtain ⟨its,rv,p,_⟩:=I.seqS hq
   obtain ⟨its',rv',p',_⟩:=I.seqS hq'
   obtain ⟨u,hu,ru⟩:=rv.get hx
   obtain ⟨u',hu',ru'⟩:=rv'.get hy
   refine qf3 D hz hTI hTO h1 h2 p p' (x:=u) (y:=u') (by simpa using hu) (by simpa using hu') fun h' e1 e2 e3 e4 e5 e6 hk=> ?_
   refine⟨_,rfl,wpAny_letOwnedTupleGo_zip e1 fun h2' ez hs2=> ?_⟩
   have nz:s.heap.objs.size ≠ z:=Nat.ne_of_gt (Heap.lt_size hz)
   have lt:∀ c ∈ [z,TI,TO,i1,i2],c < s.heap.objs.size:=fun c hc=>by
     simp only [List.mem_cons,List.not_mem_nil,or_false]at hc
     rcases hc with rfl | rfl | rfl | rfl | rfl
     · exact Heap.lt_size hz
     · exact Heap.lt_size hTI
     · exact Heap.lt_size hTO
     · obtain ⟨o,q,_⟩:=h1.here;exact Heap.lt_size q
     · obtain ⟨o,q,_⟩:=h2.here;exact Heap.lt_size q
   have eTI:IsPair h2' TI (.ref i1) (.ref i2):=(hs2.2 _ D.TIz).trans (hk TI _ D.TIz D.TITO D.TIi1 D.TIi2 hTI)
   have eTO:IsPair h2' TO u u':=(hs2.2 _ D.TOz).trans e2
   have e3':q8 b1 h2' i1 l1 (i+1):=e3.at' fun o q=>(hs2.2 _ D.i1z).trans q
   have e4':q8 b2 h2' i2 l2 (i+1):=e4.at' fun o q=>(hs2.2 _ D.i2z).trans q
   have J:=I.turnedT (h':=h2') (t':=s.toks) (vs:=[x,y]) (its:=[u,u']) (ch:=[z,TI,TO,i1,i2]) hf
     (fun c o hc q=>(hs2.2 c (fun z=>hc (by simp [z]))).trans (hk c o (fun z=>hc (by simp [z])) (fun z=>hc (by simp [z])) (fun z=>hc (by simp [z])) (fun z=>hc (by simp [z])) q))
     (fun c hc=>by
       simp only [List.mem_cons,List.not_mem_nil,or_false]at hc
       rcases hc with rfl | rfl | rfl | rfl | rfl
       · exact⟨_,ez⟩
       · exact⟨_,eTI⟩
       · exact⟨_,eTO⟩
       · obtain ⟨o,q,_⟩:=e3'.here;exact⟨o,q⟩
       · obtain ⟨o,q,_⟩:=e4'.here;exact⟨o,q⟩) (.cons ru (.cons ru' .nil)) (by show 2≤sizeLine;decide) ⟨_,(hs2.2 _ nz).trans e5,rfl,_,rfl⟩
   have hn:H s.heap.objs.size=none:=I.hok.fresh (Nat.le_refl _)
   refine⟨.ref s.heap.objs.size,_,J,rfl,⟨_,x,y,hn,rfl,rfl,fun zs hz=>by rw[I.seqS_inj hz hq];exact hx,fun zs hz=>by rw[I.seqS_inj hz hq'];exact hy⟩,⟨ez,eTI,⟨_,_,eTO⟩,e3',e4'⟩,fun c hc=> ?_⟩
   rw[qg (Nat.ne_of_lt (lt c hc))]
   exact(hf c hc).1
 done:=by
   intro X hP hw hK hc i pins s σ H E I hf st hg
   subst hP hw hK
   obtain ⟨hz,hTI,⟨a,b,hTO⟩,h1,h2⟩:=st
   obtain ⟨xs,ys,hq,hq',hx⟩:=hg
   obtain ⟨its,rv,p,_⟩:=I.seqS hq
   obtain ⟨its',rv',p',_⟩:=I.seqS hq'
   have hl:=rv.length
   have hl':=rv'.length
   exact qg9 (I.ok.hd hc) D hz hTI hTO h1 h2 p p' (by simp;omega) fun h' hk=>⟨rfl,I.turnedN (t':=s.toks) hf fun c o hc q=>hk c o (fun z=>hc (by simp [z])) (fun z=>hc (by simp [z])) (fun z=>hc (by simp [z])) (fun z=>hc (by simp [z])) q⟩
 self:=fun _ _ s Q _ st h=>wpAny_pyIter_zip st.1 h
section
variable {X:Cx}
noncomputable def q6m (K:PySem.W.Frag) (ta:TA):TI:=fun σ H R=>ta σ H fun vs H1=>∃ (b1 b2:Bool) (l1 l2:Addr),vs=[.ref l1,.ref l2]∧(∃ xs,SqS K b1 H1 l1 xs)∧(∃ ys,SqS K b2 H1 l2 ys)∧R (Itz K b1 b2 l1 l2) H1
theorem qtg {elts:List Expr} {k:Nat} {pos':Pos} {a b:Expr} {ta:TA} {p pos:Pos} (hg:Gl X "zip") (hm:X.mg "zip"=none) (ha:PA X [a,b] ta) (hs:starEach [a,b] X.env=[(false,eval a X.env),(false,eval b X.env)]:=by rfl) (hs2:starEach [b] X.env=[(false,eval b X.env)]:=by rfl) :
   PI X (.Tuple elts k pos') (.Call (.Name "zip" p) [a,b] [] pos) (q6m X.K ta):=by
 intro pins s σ H R I h
 refine Call_ (qfy I hg hm q0b (PyProof.Rows.callWith_type1 (thn (ha pos pins s σ H _ I h) fun us s1 ⟨vs,H1,I1,r1,q1⟩=> ?_) (by rw[hs,hs2]) (by rw[hs2];rfl)))
 obtain ⟨b1,b2,l1,l2,e,⟨xs,hq⟩,⟨ys,hq'⟩,q⟩:=q1
 subst e
 obtain ⟨u,u',rfl,ru,ru'⟩:=r1.two
 cases ru
 cases ru'
 obtain ⟨its,rv,pl,_⟩:=I1.seqS hq
 obtain ⟨its',rv',pl',_⟩:=I1.seqS hq'
 have in1:l1 < s1.heap.objs.size:=by
   cases b1 with
   | true=>obtain ⟨o,e,_⟩:=(show s1.heap.IsList l1 its.toArray from pl);exact Heap.lt_size e
   | false=>obtain ⟨o,e,_⟩:=(show s1.heap.IsTuple l1 its.toArray from pl);exact Heap.lt_size e
 have in2:l2 < s1.heap.objs.size:=by
   cases b2 with
   | true=>obtain ⟨o,e,_⟩:=(show s1.heap.IsList l2 its'.toArray from pl');exact Heap.lt_size e
   | false=>obtain ⟨o,e,_⟩:=(show s1.heap.IsTuple l2 its'.toArray from pl');exact Heap.lt_size e
 refine qrh pl pl' fun h' e1 e2 e3 e4 e5 hk=> ?_
 refine wpAny_pyIter_zip e1 ?_
 have fr:∀ c,s1.heap.objs.size≤c→H1 c=none:=fun c hc=>I1.hok.fresh hc
 refine⟨_,_,_,_,H1,rfl,I1.kept (t':=s1.toks) hk,qtf (b1:=b1) (b2:=b2) (zipApart_new in1 in2),⟨e1,e2,⟨_,_,e3⟩,e4,e5⟩,fun c hc=> ?_,q⟩
 have hc':s1.heap.objs.size≤c:=by
   simp only [List.mem_cons,List.not_mem_nil,or_false]at hc
   rcases hc with rfl | rfl | rfl | rfl | rfl
   · exact Nat.le_add_right _ _
   · exact Nat.le_add_right _ _
   · exact Nat.le_add_right _ _
   · exact Nat.le_refl _
   · exact Nat.le_add_right _ _
 exact I1.fpOk hc' (fr c hc')
end
section
variable {X:Cx}
theorem qth {bs:List Bool} {its:List Value} (rv:Vals (bs.map V.bl) its):∀ (i:Nat) (v:Value),its[i]? =some v→v=Value.bool (bs.getD i true):=fun i v e=>by
 have hl:=rv.length
 have hi:i < its.length:=(List.getElem?_eq_some_iff.mp e).1
 have hb:i < bs.length:=by simpa [← hl]using hi
 obtain ⟨u,e2,r⟩:=rv.get (i:=i) (x:=.bl bs[i]) (by simp [hb])
 rw[e]at e2;cases e2
 have:v=Value.bool bs[i]:=r
 rw[this];simp [List.getD_eq_getElem?_getD,hb]
theorem range_all (bs:List Bool):(List.range bs.length).all (fun i=>bs.getD i true)=bs.all id:=by
 rw[Bool.eq_iff_iff]
 simp only [List.all_eq_true,List.mem_range]
 constructor
 · intro h b hb
   obtain ⟨i,hi,rfl⟩:=List.getElem_of_mem hb
   have:=h i hi
   simpa [List.getD_eq_getElem?_getD,hi]using this
 · intro h i hi
   have:=h bs[i] (List.getElem_mem hi)
   simpa [List.getD_eq_getElem?_getD,hi]using this
noncomputable def q6n (K:PySem.W.Frag):List V→Hp→VK→Prop:=fun vs H Q=>∃ (l:Addr) (bs:List Bool),vs=[.ref l]∧SqL K H l (bs.map V.bl)∧Q (.bl (bs.all id)) H
theorem qti (hc:X.calm=true):qbj X (.builtin "all") (q6n X.K):=by
 intro pins s σ H xs us Q I r h
 obtain ⟨l,bs,rfl,hq,q⟩:=h
 obtain ⟨u,rfl,ru⟩:=r.one
 cases ru
 obtain ⟨its,rv,p,hz⟩:=I.list hq
 have hl:=rv.length
 have hlt:l < s.heap.objs.size:=by obtain ⟨o,e,_⟩:=p.isList;exact Heap.lt_size e
 refine call_all_walk (wpAny_pyIter_list p.isList ⟨_,_,_,_,_,_,fun i=>bs.getD i true,rfl,Walks.list (A:=X.A.in1) (I.ok.hd hc) _ l (Nat.ne_of_lt hlt) its.toArray,⟨⟨_,Heap.get?_push_size _ rfl,rfl,rfl⟩,p.isList.push _⟩,?_,fun h' tk hk=> ?_⟩)
 · intro i v s' Q' E' hv hq'
   rw[qth rv i v (by simpa using hv)]
   exact wpAny_truthy_bool hq'
 · have e:(List.range its.toArray.size).all (fun i=>bs.getD i true)=bs.all id:=by
     rw[List.size_toArray,← hl,List.length_map];exact range_all bs
   rw[e]
   exact⟨.bl _,H,I.kept fun b o eb=>hk b o (fun z=>Nat.ne_of_lt (Heap.lt_size eb) (by simpa using z)) (Heap.get?_push_of_some _ eb),rfl,q⟩
end
section
variable {X:Cx} {K:PySem.W.Frag}
theorem q6o (hK:X.K=K):SlR X (q3d K):=by subst hK;exact qqg
theorem qwh (hK:X.K=K):qbj X (.type "list") (fun xs H Q=>∃ p ys,xs=[.ref p]∧(SqL K H p ys∨SqT K H p ys)∧∀ l,H l=none→Q (.ref l) (upd H l (.lst ys))):=by subst hK;exact qe9
end
section
variable {κ:Type} [DecidableEq κ]
noncomputable def qej (kvs:List (κ × V)) (k:κ):Option V:=(kvs.find? fun kv=>decide (kv.1=k)).map (·.2)
noncomputable def putK (kvs:List (κ × V)) (k:κ) (v:V):List (κ × V) :=
 if (kvs.any fun kv=>decide (kv.1=k))=true then kvs.map (fun kv=>if kv.1=k then (kv.1,v)else kv)else kvs++[(k,v)]
theorem qcw {p:κ × V} {r:List (κ × V)} {k:κ} (e:p.1=k):qej (p::r) k=some p.2:=by simp [qej,List.find?_cons,e]
theorem qcx {p:κ × V} {r:List (κ × V)} {k:κ} (e:¬ p.1=k):qej (p::r) k=qej r k:=by simp [qej,List.find?_cons,e]
theorem qm1 (k:κ):∀ kvs:List (κ × V),(kvs.any fun kv=>decide (kv.1=k))=(qej kvs k).isSome
 | []=>rfl
 | p::r=>by
   rw[List.any_cons]
   by_cases e:p.1=k
   · simp only [qcw e,decide_eq_true e,Bool.true_or,Option.isSome_some]
   · rw[qcx e,decide_eq_false e,Bool.false_or];exact qm1 k r
theorem qdq (kvs:List (κ × V)) (k:κ) (v:V):(putK kvs k v).length≤kvs.length+1:=by
 unfold putK
 split
 · rw[List.length_map];omega
 · rw[List.length_append,List.length_cons,List.length_nil];omega
theorem qfw.isSome_eq {o:Option V} {u:Option Value} (r:qfw o u):o.isSome=u.isSome:=by
 cases o with
 | none=>cases u with
   | none=>rfl
   | some _=>exact(show False from r).elim
 | some _=>cases u with
   | none=>exact(show False from r).elim
   | some _=>rfl
theorem qfw.getD {o:Option V} {u:Option Value} {d:V} {d':Value} (r:qfw o u) (rd:RelV d d'):RelV (o.getD d) (u.getD d'):=by
 cases o with
 | none=>cases u with
   | none=>exact rd
   | some _=>exact(show False from r).elim
 | some _=>cases u with
   | none=>exact(show False from r).elim
   | some _=>exact r
theorem KV.val {kvs:List (κ × V)} {vs:List (κ × Value)} (r:KV kvs vs) (k:κ):qfw (qej kvs k) (valueAt vs k):=by
 unfold KV at r
 induction r with
 | nil=>exact True.intro
 | @cons p q ps qs h t ih =>
   obtain ⟨h1,h2⟩:=h
   by_cases e:p.1=k
   · have e':q.1=k:=h1.symm.trans e
     have b:valueAt (q::qs) k=some q.2:=by simp [valueAt,List.find?_cons,e']
     rw[qcw e,b];exact h2
   · have e':¬ q.1=k:=fun z=>e (h1.trans z)
     have b:valueAt (q::qs) k=valueAt qs k:=by simp [valueAt,List.find?_cons,e']
     rw[qcx e,b];exact ih
theorem KV.any {kvs:List (κ × V)} {vs:List (κ × Value)} (r:KV kvs vs) (k:κ):(kvs.any fun kv=>decide (kv.1=k))=vs.any fun kv=>decide (kv.1=k):=by
 unfold KV at r
 induction r with
 | nil=>rfl
 | cons h t ih=>rw[List.any_cons,List.any_cons,ih,h.1]
theorem KV.repl {kvs:List (κ × V)} {vs:List (κ × Value)} (r:KV kvs vs) (k:κ) {y:V} {u:Value} (ry:RelV y u) :
   KV (kvs.map fun kv=>if kv.1=k then (kv.1,y)else kv) (vs.map fun kv=>if kv.1=k then (kv.1,u)else kv):=by
 unfold KV at r ⊢
 induction r with
 | nil=>exact .nil
 | @cons p q ps qs h t ih =>
   rw[List.map_cons,List.map_cons]
   refine .cons ?_ ih
   obtain ⟨h1,h2⟩:=h
   by_cases e:p.1=k
   · rw[if_pos e,if_pos (h1.symm.trans e)];exact⟨h1,ry⟩
   · rw[if_neg e,if_neg (fun z=>e (h1.trans z))];exact⟨h1,h2⟩
theorem KV.put {kvs:List (κ × V)} {vs:List (κ × Value)} (r:KV kvs vs) (k:κ) {y:V} {u:Value} (ry:RelV y u):KV (putK kvs k y) (stored vs k u):=by
 unfold putK stored
 rw[r.any k]
 by_cases e:(vs.any fun kv=>decide (kv.1=k))=true
 · rw[if_pos e,if_pos e];exact r.repl k ry
 · rw[if_neg e,if_neg e];exact Paired.snoc r ⟨rfl,ry⟩
theorem KV.length {kvs:List (κ × V)} {vs:List (κ × Value)} (r:KV kvs vs):kvs.length=vs.length:=Paired.length r
end
theorem qfc {P:Program} {w:World} {k:Key} {u:Value} (r:RelV (kV k) u):(qx P w).is k u=true:=by
 cases k with
 | inl i=>obtain ⟨t,e⟩:=(show ∃ t,u=Value.int i t from r);subst e;exact qms P w i t
 | inr x=>obtain ⟨t,e⟩:=(show ∃ t,u=Value.str x t from r);subst e;exact qdl P w x t
theorem qke {P:Program} {w:World}:∀ {ks:List Key} {us:List Value},Vals (ks.map kV) us→ItemsAre (qx P w) ks us
 | [],_,r=>by rw[List.map_nil]at r;cases r;exact .nil
 | k::ks,_,r=>by
   rw[List.map_cons]at r
   cases r with
   | cons h t=>exact .cons (qfc h) (qke t)
noncomputable abbrev KT (H:Hp):List (List Key × V)→List (List Key × Addr × Value)→Prop:=Paired fun p q=>p.1=q.1∧H q.2.1=some (.tup (p.1.map kV))∧RelV p.2 q.2.2
theorem KT.val {H:Hp} {kvs:List (List Key × V)} {xs:List (List Key × Addr × Value)} (r:KT H kvs xs) (k:List Key):qfw (qej kvs k) ((atKey xs k).map (·.2)):=by
 induction r with
 | nil=>exact True.intro
 | @cons p q ps qs h t ih =>
   obtain ⟨h1,_,h2⟩:=h
   by_cases e:p.1=k
   · have e':q.1=k:=h1.symm.trans e
     have b:atKey (q::qs) k=some q.2:=by simp [atKey,List.find?_cons,e']
     rw[qcw e,b];exact h2
   · have e':¬ q.1=k:=fun z=>e (h1.trans z)
     have b:atKey (q::qs) k=atKey qs k:=by simp [atKey,List.find?_cons,e']
     rw[qcx e,b];exact ih
theorem KT.repl {H:Hp} {kvs:List (List Key × V)} {xs:List (List Key × Addr × Value)} (r:KT H kvs xs) (k:List Key) {y:V} {u:Value} (ry:RelV y u) :
   KT H (kvs.map fun kv=>if kv.1=k then (kv.1,y)else kv) (xs.map (putAt k u)):=by
 induction r with
 | nil=>exact .nil
 | @cons p q ps qs h t ih =>
   rw[List.map_cons,List.map_cons]
   refine .cons ?_ ih
   obtain ⟨h1,h2,h3⟩:=h
   unfold putAt
   by_cases e:p.1=k
   · rw[if_pos e,if_pos (h1.symm.trans e)];exact⟨h1,h2,ry⟩
   · rw[if_neg e,if_neg (fun z=>e (h1.trans z))];exact⟨h1,h2,h3⟩
theorem KT.put {H:Hp} {kvs:List (List Key × V)} {xs:List (List Key × Addr × Value)} (r:KT H kvs xs) (k:List Key) {b:Addr} {y:V} {u:Value} (hb:H b=some (.tup (k.map kV))) (ry:RelV y u) :
   KT H (putK kvs k y) (storedH xs k b u):=by
 have e:(kvs.any fun kv=>decide (kv.1=k))=(atKey xs k).isSome:=by
   rw[qm1,(r.val k).isSome_eq,Option.isSome_map]
 unfold putK storedH
 rw[e]
 by_cases q:(atKey xs k).isSome=true
 · rw[if_pos q,if_pos q];exact r.repl k ry
 · rw[if_neg q,if_neg q];exact Paired.snoc r ⟨rfl,hb,ry⟩
theorem KT.keeps {H H':Hp} {kvs:List (List Key × V)} {xs:List (List Key × Addr × Value)} (r:KT H kvs xs) (ht:∀ b ys,H b=some (.tup ys)→H' b=some (.tup ys)):KT H' kvs xs :=
 Paired.mapP r fun _ _ z=>⟨z.1,ht _ _ z.2.1,z.2.2⟩
section
variable {P:Program} {w:World} {H:Hp} {h:Heap} {a:Addr}
theorem qys {u:HO} (ok:HOk P w H h) (e:Rd H a u):qad P w H h a u:=e.ok ok
theorem qfd {kvs:List (Key × V)} (ok:HOk P w H h) (e:Rd H a (.dK kvs)):kvs.length≤sizeLine∧(a==sysModules)=false∧∃ vs,KV kvs vs∧h.DictOf (qx P w) a vs :=
 show qad P w H h a (.dK kvs) from qys ok e
theorem qyt {kvs:List (Key × V)} (ok:HOk P w H h) (e:H a=some (.dK kvs)):kvs.length≤sizeLine∧(a==sysModules)=false∧∃ vs,KV kvs vs∧h.DictOf (qx P w) a vs:=qfd ok (.inl e)
theorem qf4 {ks:List Key} (ok:HOk P w H h) (e:H a=some (.tup (ks.map kV))):(tupleKind (qx P w)).is h ks a:=by
 obtain ⟨_,its,r,o,h1,h2,n,h3⟩:=(show qad P w H h a (.tup (ks.map kV)) from ok a _ e)
 exact⟨o,its.toArray,n,h1,h2,h3,by simpa using qke r⟩
theorem qh7 {kvs:List (List Key × V)} (ok:HOk P w H h) (e:Rd H a (.dT kvs)):kvs.length≤sizeLine∧(a==sysModules)=false ∧
   ∃ xs,KT H kvs xs∧h.DictOfH (tupleKind (qx P w)) a xs:=by
 obtain ⟨z,y,xs,r,o,es,ep,h1,h2,h3,h4,h5⟩:=(show qad P w H h a (.dT kvs) from qys ok e)
 refine⟨z,y,xs,r,o,es,ep,h1,h2,h3,h4,fun x hx=> ?_,h5⟩
 have all:∀ {l:List (List Key × V)} {m:List (List Key × Addr × Value)},KT H l m→∀ x ∈ m,(tupleKind (qx P w)).is h x.1 x.2.1:=by
   intro l m q
   induction q with
   | nil=>intro x hx;exact nomatch hx
   | @cons p q ps qs hq t ih =>
     intro x hx
     rcases List.mem_cons.mp hx with e | hx
     · subst e
       exact qf4 ok (by rw[← hq.1];exact hq.2.1)
     · exact ih x hx
 exact all r x hx
theorem q3l {kvs:List (List Key × V)} (ok:HOk P w H h) (e:H a=some (.dT kvs)):kvs.length≤sizeLine∧(a==sysModules)=false ∧
   ∃ xs,KT H kvs xs∧h.DictOfH (tupleKind (qx P w)) a xs:=qh7 ok (.inl e)
end
noncomputable def qf5 (H:Hp) (a:Addr) (y:V) (r:Option V):Prop :=
 (∃ kvs k,Rd H a (.dK kvs)∧y=kV k∧r=qej kvs k)∨∃ kvs k b,Rd H a (.dT kvs)∧y=.ref b∧H b=some (.tup (k.map kV))∧r=qej kvs k
noncomputable def qtj (H:Hp) (a:Addr) (y v:V) (H':Hp):Prop :=
 (∃ kvs k,H a=some (.dK kvs)∧y=kV k∧kvs.length < sizeLine∧H'=upd H a (.dK (putK kvs k v))) ∨
 ∃ kvs k b,H a=some (.dT kvs)∧y=.ref b∧H b=some (.tup (k.map kV))∧kvs.length < sizeLine∧H'=upd H a (.dT (putK kvs k v))
theorem qtj.k {H:Hp} {a:Addr} {kvs:List (Key × V)} {k:Key} {v:V} (e:H a=some (.dK kvs)) (hl:kvs.length < sizeLine):qtj H a (kV k) v (upd H a (.dK (putK kvs k v))):=.inl ⟨kvs,k,e,rfl,hl,rfl⟩
section
variable {X:Cx} {pins:List (Addr × Obj)} {σ:St} {H:Hp} {s:Shared} {a:Addr} {y v:V} {u r:Value} {o:Option V} {A:Around} {E:Value→Shared→Prop}
theorem Inv.big (I:Inv X pins σ H s):sysModules < s.heap.objs.size:=by
 have h:mainGlobals < s.heap.objs.size:=(I.mod.glob.keeps I.bk).lt
 exact Nat.lt_trans (by decide) h
theorem qkf {Q:Value→Shared→Prop} (hu:A.units+1 < cLine) (I:Inv X pins σ H s) (g:qf5 H a y (some v)) (ry:RelV y u) (h:∀ w' s',Inv X pins σ H s'→RelV v w'→Q w' s') :
   wpAny (model X.prog X.w) A (getItem (.ref a) u) Q E s:=by
 rcases g with ⟨kvs,k,e,ey,l⟩ | ⟨kvs,k,b,e,ey,eb,l⟩
 · subst ey
   obtain ⟨z,hd,vs,rel,dd⟩:=qfd I.hok e
   obtain ⟨w',hw,rw'⟩:=qfw.some_of (v:=v) (o:=valueAt vs k) (by rw[l];exact rel.val k)
   exact wpAny_getItem_of (qfc ry) dd.mapOf hw (h w' _ (I.tok _) rw')
 · subst ey
   cases (show u=Value.ref b from ry)
   obtain ⟨z,hd,xs,rel,dd⟩:=qh7 I.hok e
   obtain ⟨w',hw,rw'⟩:=qfw.some_of (v:=v) (o:=(atKey xs k).map (·.2)) (by rw[l];exact rel.val k)
   obtain ⟨p,hp,hp2⟩:=Option.map_eq_some_iff.mp hw
   refine wpAny_getItem_heap (tupleKind_room_in1 hu) (qf4 I.hok eb) dd hp ?_
   rw[hp2]
   exact h w' _ (I.tok _) rw'
theorem q6p {Q:Value→Shared→Prop} (hu:A.units+1 < cLine) (I:Inv X pins σ H s) (g:qf5 H a y o) (ry:RelV y u) (h:∀ s',Inv X pins σ H s'→Q (.bool o.isSome) s') :
   wpAny (model X.prog X.w) A (compareOp .In u (.ref a)) Q E s:=by
 rcases g with ⟨kvs,k,e,ey,l⟩ | ⟨kvs,k,b,e,ey,eb,l⟩
 · subst ey
   obtain ⟨z,hd,vs,rel,dd⟩:=qfd I.hok e
   refine wpAny_in_of (qfc ry) hd dd.mapOf ?_
   rw[← (rel.val k).isSome_eq,← l]
   exact h _ (I.tok _)
 · subst ey
   cases (show u=Value.ref b from ry)
   obtain ⟨z,hd,xs,rel,dd⟩:=qh7 I.hok e
   refine wpAny_in_heap (tupleKind_room_in1 hu) (qf4 I.hok eb) hd dd ?_
   have q:=(rel.val k).isSome_eq
   rw[Option.isSome_map]at q
   rw[← q,← l]
   exact h _ (I.tok _)
theorem qwi {Q:Value→Shared→Prop} (hu:A.units+1 < cLine) (I:Inv X pins σ H s) (g:qf5 H a y o) (ry:RelV y u) (h:∀ s',Inv X pins σ H s'→Q (.bool (!o.isSome)) s') :
   wpAny (model X.prog X.w) A (compareOp .NotIn u (.ref a)) Q E s:=by
 rcases g with ⟨kvs,k,e,ey,l⟩ | ⟨kvs,k,b,e,ey,eb,l⟩
 · subst ey
   obtain ⟨z,hd,vs,rel,dd⟩:=qfd I.hok e
   refine wpAny_notIn_of (qfc ry) hd dd.mapOf ?_
   rw[← (rel.val k).isSome_eq,← l]
   exact h _ (I.tok _)
 · subst ey
   cases (show u=Value.ref b from ry)
   obtain ⟨z,hd,xs,rel,dd⟩:=qh7 I.hok e
   refine wpAny_notIn_heap (tupleKind_room_in1 hu) (qf4 I.hok eb) hd dd ?_
   have q:=(rel.val k).isSome_eq
   rw[Option.isSome_map]at q
   rw[← q,← l]
   exact h _ (I.tok _)
theorem qle {h':Heap} {t':Nat} {ob:HO} (I:Inv X pins σ H s) (mu:Mut (H a)) (hs:Heap.SameBut a s.heap h') (he:∃ q,h'.get? a=some q) (new:qad X.prog X.w (upd H a ob) h' a ob) :
   Inv X pins σ (upd H a ob) { s with heap:=h',toks:=t' } :=
 I.write (x:=a) (e:=a) mu (.inl rfl) (fun b q hb z=>(hs.2 b hb).trans z) he new
theorem qtk {P:Program} {w:World} {H':Hp} {h':Heap} {kvs:List (Key × V)} {vs:List (Key × Value)} (z:kvs.length≤sizeLine) (hd:(a==sysModules)=false) (rel:KV kvs vs) (dd:h'.DictOf (qx P w) a vs) :
   qad P w H' h' a (.dK kvs):=⟨z,hd,vs,rel,dd⟩
theorem qri {H':Hp} {Q:Unit→Shared→Prop} (hu:A.units+1 < cLine) (I:Inv X pins σ H s) (g:qtj H a y v H') (ry:RelV y u) (rv:RelV v r) (h:∀ s',Inv X pins σ H' s'→Q () s') :
   wpAny (model X.prog X.w) A (setItem (.ref a) u r) Q E s:=by
 rcases g with ⟨kvs,k,e,ey,l,eH⟩ | ⟨kvs,k,b,e,ey,eb,l,eH⟩
 · subst ey eH
   obtain ⟨z,hd,vs,rel,dd⟩:=qyt I.hok e
   have hz:vs.length≤sizeLine:=by rw[← rel.length];exact z
   have hl:(putK kvs k v).length≤sizeLine:=by have:=qdq kvs k v;omega
   refine wpAny_setItem_pairs (hsz:=hz) (qfc ry) dd fun h' dd' hs=>h _ ?_
   have he:∃ q,h'.get? a=some q:=let ⟨q,_,_,hq,_⟩:=dd';⟨q,hq⟩
   exact qle I (by rw[e];exact True.intro) hs he (qtk hl hd (rel.put k rv) dd')
 · subst ey eH
   cases (show u=Value.ref b from ry)
   obtain ⟨z,hd,xs,rel,dd⟩:=q3l I.hok e
   have hz:xs.length≤sizeLine:=by rw[← Paired.length rel];exact z
   have hl:(putK kvs k v).length≤sizeLine:=by have:=qdq kvs k v;omega
   refine wpAny_setItem_heap (hsz:=hz) (tupleKind_room_in1 hu) (qf4 I.hok eb) dd fun h' dd' hs=>h _ ?_
   obtain ⟨q,es,ep,hq,h2,h3,h4,_,h5⟩:=dd'
   refine qle I (by rw[e];exact True.intro) hs ⟨q,hq⟩ ⟨hl,hd,_,(rel.put k eb rv).keeps fun c ys ec=> ?_,q,es,ep,hq,h2,h3,h4,h5⟩
   rw[qg (q2o ec e (fun z=>nomatch z))]
   exact ec
end
section
variable {X:Cx} {pins:List (Addr × Obj)} {σ:St} {H:Hp} {s:Shared} {a:Addr} {kvs:List (Key × V)} {k:Key} {u:Value} {A:Around} {E:Value→Shared→Prop}
theorem q3m {Q:Value→Shared→Prop} (I:Inv X pins σ H s) (e:Rd H a (.dK kvs)) (h:∀ t s',Inv X pins σ H s'→Q (.int kvs.length t) s'):wpAny (model X.prog X.w) A (call (.builtin "len") [.ref a]) Q E s:=by
 obtain ⟨z,hd,vs,rel,dd⟩:=qfd I.hok e
 refine call_len_dict hd dd (by rw[← rel.length];rw[sizeLine_eq]at z;omega) ?_
 rw[← rel.length]
 exact h _ _ (I.tok _)
theorem qwj {Q:Bool→Shared→Prop} (I:Inv X pins σ H s) (e:Rd H a (.dK kvs)) (h:∀ s',Inv X pins σ H s'→Q (!kvs.isEmpty) s'):wpAny (model X.prog X.w) A (truthy (.ref a)) Q E s:=by
 obtain ⟨z,hd,vs,rel,dd⟩:=qfd I.hok e
 refine wpAny_truthy_dict hd dd (by rw[← rel.length];rw[sizeLine_eq]at z;omega) ?_
 have q:kvs.isEmpty=vs.isEmpty:=by cases rel <;> rfl
 rw[← q]
 exact h _ (I.tok _)
end
noncomputable def q0f (i:Expr):Prop:=∀ ov iv,subscripted i false ov iv=operate [ov,iv] (getItem ov iv)
theorem qwk {prog:Program} {w:World} {A:Around} {E:Value→Shared→Prop} {s:Shared} {env:Env} {value slice:Expr} {pos:Pos} {T id:String} {Q:Value→Shared→Prop}
   (hl:typeLookup (.type T) "__getitem__"=pure (some (.builtin id))) (hs:q0f slice)
   (h:wpAny (model prog w) A (eval value env) (fun o s₁=>wpAny (model prog w) A (eval slice env) (fun i s₂=>s₂.TypeIs o T∧wpAny (model prog w) A (getItem o i) Q E s₂) E s₁) E s) :
   wpAny (model prog w) A (eval (.Subscript value slice pos) env) Q E s:=by
 refine Subscript_ (wpAny_mono h (fun o s₁ h₁=>wpAny_mono h₁ (fun i s₂ h₂=> ?_) fun _ _ x=>x) fun _ _ x=>x)
 obtain ⟨hT,h₂⟩:=h₂
 unfold subscriptTail
 refine wpAny_bind ?_
 rw[getitemInPython_of_ne hT.not_modules]
 refine wpAny_bind (wpAny_specialOf hT hl ?_)
 have fin:wpAny (model prog w) A (subscripted slice false o i) (fun r s₃=>wpAny (model prog w) A (letTemporaryGo value o r >>= fun _=>pure r) Q E s₃) E s₂:=by
   rw[hs o i]
   exact wpAny_operating (wpAny_mono h₂ (fun r s₃ h₃=>wpAny_bind (wpAny_letTemporaryGo (wpAny_pure h₃))) fun _ _ x=>x)
 first
   | exact wpAny_pure (wpAny_bind fin)
   | exact wpAny_bind (wpAny_pure (wpAny_bind fin))
   | exact wpAny_bind fin
theorem qm2 {X:Cx} {pins:List (Addr × Obj)} {σ:St} {H:Hp} {s:Shared} {a:Addr} {y:V} {o:Option V} (I:Inv X pins σ H s) (g:qf5 H a y o):s.TypeIs (.ref a) "dict":=by
 rcases g with ⟨kvs,k,e,_,_⟩ | ⟨kvs,k,b,e,_,_,_⟩
 · obtain ⟨_,_,vs,_,dd⟩:=qfd I.hok e
   exact dd.typeIs
 · obtain ⟨_,_,xs,_,dd⟩:=qh7 I.hok e
   exact dd.typeIs
theorem qtl {P:Program} {w:World} {H:Hp} (h:Heap) (hb:sysModules < h.objs.size):qad P w H (h.push { cls:=.type "dict",data:=.dict #[] }) h.objs.size (.dK []) :=
 ⟨Nat.zero_le _,beq_eq_false_iff_ne.mpr (Ne.symm (Nat.ne_of_lt hb)),[],.nil,Heap.DictOf.new h⟩
noncomputable def qlf:List (TE × TE)→St→Hp→(List (V × V)→Hp→Prop)→Prop
 | [],_,H,Q=>Q [] H
 | (tk,tv)::r,σ,H,Q=>tk σ H fun x H1=>tv σ H1 fun y H2=>qlf r σ H2 fun ps H3=>Q ((x,y)::ps) H3
noncomputable abbrev VV:List (V × V)→List (Value × Value)→Prop:=Paired fun p q=>RelV p.1 q.1∧RelV p.2 q.2
noncomputable def PPs (X:Cx) (pos:Pos) (keys:List (Option Expr)) (values:List Expr) (trs:List (TE × TE)):Prop :=
 ∀ (pins:List (Addr × Obj)) (s:Shared) (σ:St) (H:Hp) (Q:List (V × V)→Hp→Prop),Inv X pins σ H s→qlf trs σ H Q →
   wpAny (model X.prog X.w) X.A (evalPairs (pairTrees keys values X.env pos)) (fun vs s'=>∃ ps H',Inv X pins σ H' s'∧VV ps vs∧Q ps H') X.xe s
theorem qwl {X:Cx} {pos:Pos}:PPs X pos [] [] []:=fun pins s σ H Q I h=>pairTrees_nil_walk ⟨[],H,I,.nil,h⟩
theorem qtm {X:Cx} {pos:Pos} {k v:Expr} {ks:List (Option Expr)} {vs:List Expr} {tk tv:TE} {trs:List (TE × TE)} (hk:PE X k tk) (hv:PE X v tv) (hr:PPs X pos ks vs trs) :
   PPs X pos (some k::ks) (v::vs) ((tk,tv)::trs):=fun pins s σ H Q I h =>
 pairTrees_cons_walk (thn (hk pins s σ H _ I h) fun u s1 ⟨x,H1,I1,rx,q1⟩=>thn (hv pins s1 σ H1 _ I1 q1) fun w2 s2 ⟨y,H2,I2,ry,q2⟩ =>
   thn (hr pins s2 σ H2 _ I2 q2) fun ws s3 ⟨ps,H3,I3,rel,q3⟩=>⟨(x,y)::ps,H3,I3,.cons ⟨rx,ry⟩ rel,q3⟩)
noncomputable def qc7 (kvs more:List (Key × V)):List (Key × V):=more.foldl (fun acc kv=>putK acc kv.1 kv.2) kvs
theorem KV.merge:∀ {more:List (Key × V)} {rs:List (Key × Value)} {kvs:List (Key × V)} {vs:List (Key × Value)},KV more rs→KV kvs vs→KV (qc7 kvs more) (merged vs rs):=by
 intro more rs kvs vs r
 unfold KV at r
 induction r generalizing kvs vs with
 | nil=>intro q;exact q
 | @cons p q ps qs h t ih =>
   intro r0
   have e:KV (putK kvs p.1 p.2) (stored vs q.1 q.2):=by
     have:=r0.put p.1 h.2
     rw[← h.1];exact this
   exact ih e
theorem qen:∀ (more kvs:List (Key × V)),(qc7 kvs more).length≤kvs.length+more.length
 | [],kvs=>by show kvs.length≤kvs.length+0;omega
 | p::r,kvs=>by
   have h1:=qen r (putK kvs p.1 p.2)
   have h2:=qdq kvs p.1 p.2
   show (qc7 (putK kvs p.1 p.2) r).length≤_
   rw[List.length_cons];omega
theorem qh8 {P:Program} {w:World}:∀ {kvs:List (Key × V)} {ws:List (Value × Value)},VV (kvs.map fun kv=>(kV kv.1,kv.2)) ws→∃ rs,Carries (qx P w) ws rs∧KV kvs rs
 | [],_,r=>by rw[List.map_nil]at r;cases r;exact⟨[],True.intro,.nil⟩
 | p ::kvs,_,r=>by
   rw[List.map_cons]at r
   cases r with
   | @cons a b as bs h t =>
     obtain ⟨rs,c,q⟩:=qh8 (P:=P) (w:=w) t
     obtain ⟨b1,b2⟩:=b
     exact⟨(p.1,b2)::rs,⟨qfc h.1,rfl,c⟩,.cons ⟨rfl,h.2⟩ q⟩
noncomputable def q3n (trs:List (TE × TE)):TE:=fun σ H Q=>∀ p,H p=none→qlf trs σ (upd H p (.dK [])) fun ps H2=>H2 p=some (.dK [])∧∃ kvs:List (Key × V),ps=kvs.map (fun kv=>(kV kv.1,kv.2))∧kvs.length≤15∧Q (.ref p) (upd H2 p (.dK (qc7 [] kvs)))
theorem qwm {X:Cx} {pos:Pos} {keys:List (Option Expr)} {values:List Expr} {trs:List (TE × TE)} (h:PPs X pos keys values trs) (hall:keys.all (·.isSome)=true) (hl:keys.length=values.length) (h0:keys ≠ [])
   (h15:keys.length≤15):PE X (.Dict keys values pos) (q3n trs):=by
 intro pins s σ H Q I q
 have hn:=I.hok.fresh (Nat.le_refl s.heap.objs.size)
 have I1:=I.laid (a:=s.heap.objs.size) (o:=.dK []) (h':=s.heap.push { cls:=.type "dict",data:=.dict #[] }) (t':=s.toks) (fun _ _ q=>Heap.get?_push_of_some _ q) (Nat.le_refl _) (qtl s.heap I.big)
 refine wpAny_Dict_walk (knd:=qx X.prog X.w) hall hl h0 h15 (thn (h pins _ σ _ _ I1 (q _ hn)) fun ws s2 ⟨ps,H2,I2,rel,e,kvs,ep,lk,q2⟩=> ?_)
 subst ep
 obtain ⟨rs,c,rk⟩:=qh8 (P:=X.prog) (w:=X.w) rel
 obtain ⟨z,hd,vs0,r0,dd⟩:=qyt I2.hok e
 cases r0
 refine⟨rs,c,dd,fun h' dd' hs=>⟨.ref s.heap.objs.size,_,?_,rfl,q2⟩⟩
 have hz:(qc7 [] kvs).length≤sizeLine:=by
   have h1:=qen kvs []
   rw[List.length_nil]at h1
   rw[sizeLine_eq];omega
 have he:∃ q,h'.get? s.heap.objs.size=some q:=let ⟨q,_,_,hq,_⟩:=dd';⟨q,hq⟩
 exact qle I2 (by rw[e];exact True.intro) hs he (qtk hz hd (rk.merge .nil) dd')
structure M2 (X:Cx) (o:Expr) (m:Str) (apos:Pos) (e f:Expr) (cpos:Pos):Prop where
 base:attributeBase o m X.env (eval o X.env)=eval o X.env
 few:((backTo cpos (starEach [e,f] X.env)).all (fun x=> !x.1) && (backToKw cpos (keywordEach [] X.env)).all (fun x=>x.1.isSome)
   && decide (([e,f]:List Expr).length+([]:List Keyword).length+(if ([]:List Keyword).isEmpty then 0 else 1) < 30))=true
 line:(apos.endLine==cpos.line)=true
 trees:backTo cpos (starEach [e,f] X.env)=[(false,eval e X.env),(false,eval f X.env)]
noncomputable def IsD (H:Hp) (a:Addr):Prop:=(∃ kvs,Rd H a (.dK kvs))∨∃ kvs,Rd H a (.dT kvs)
theorem q0g {X:Cx} {pins:List (Addr × Obj)} {σ:St} {H:Hp} {s:Shared} {a:Addr} (I:Inv X pins σ H s) (d:IsD H a) :
   s.TypeIs (.ref a) "dict"∧(∀ b,Value.ref a=.ref b→∃ ob,s.heap.get? b=some ob∧ob.dict=none)∧(a==sysModules)=false:=by
 rcases d with ⟨kvs,e⟩ | ⟨kvs,e⟩
 · obtain ⟨_,hd,vs,_,dd⟩:=qfd I.hok e
   refine⟨dd.typeIs,fun b q=> ?_,hd⟩
   cases q
   obtain ⟨ob,_,_,h1,h2,_⟩:=dd
   exact⟨ob,h1,h2.2.1⟩
 · obtain ⟨_,hd,xs,_,dd⟩:=qh7 I.hok e
   refine⟨dd.typeIs,fun b q=> ?_,hd⟩
   cases q
   obtain ⟨ob,_,_,h1,h2,_⟩:=dd
   exact⟨ob,h1,h2.2.1⟩
section
variable {X:Cx} {pins:List (Addr × Obj)} {σ:St} {H:Hp} {s:Shared} {a:Addr} {y d:V} {u r:Value} {o:Option V} {A:Around} {E:Value→Shared→Prop}
theorem q0h {Q:Value→Shared→Prop} (hu:A.units+1 < cLine) (I:Inv X pins σ H s) (g:qf5 H a y o) (ry:RelV y u) (rd:RelV d r) (h:∀ w' s',Inv X pins σ H s'→RelV (o.getD d) w'→Q w' s') :
   wpAny (model X.prog X.w) A (call (.builtin "dict.get") [.ref a,u,r]) Q E s:=by
 rcases g with ⟨kvs,k,e,ey,l⟩ | ⟨kvs,k,b,e,ey,eb,l⟩
 · subst ey
   obtain ⟨z,hd,vs,rel,dd⟩:=qfd I.hok e
   refine call_meetsIn PySem.F.slot_dict_get dd.typeIs PySem.F.entry_dict_get (PySem.F.args_dict_get_3 _ _ _) (meets_dict_get_default (qx X.prog X.w) a (qfc ry) hd r) ⟨_,dd.mapOf,h _ _ (I.tok _) ?_⟩
   rw[l]
   exact(rel.val k).getD rd
 · subst ey
   cases (show u=Value.ref b from ry)
   obtain ⟨z,hd,xs,rel,dd⟩:=qh7 I.hok e
   refine call_meetsIn PySem.F.slot_dict_get dd.typeIs PySem.F.entry_dict_get (PySem.F.args_dict_get_3 _ _ _) (meetsH_dict_get_default (tupleKind (qx X.prog X.w)) a b hd r) ⟨tupleKind_room_in1 hu,k,xs,qf4 I.hok eb,dd,h _ _ (I.tok _) ?_⟩
   rw[l]
   exact(rel.val k).getD rd
end
noncomputable def q0i (td ty tx:TE):TE:=fun σ H Q=>td σ H fun x H1=>∃ a,x=.ref a∧IsD H1 a∧ty σ H1 fun y H2=>tx σ H2 fun z H3=>∃ o,qf5 H3 a y o∧Q (o.getD z) H3
section
variable {X:Cx} {o e f:Expr} {apos cpos:Pos} {td ty tx:TE}
theorem qtn (hu:X.A.units+1 < cLine) (ho:PE X o td) (he:PE X e ty) (hf:PE X f tx) (m:M2 X o "get" apos e f cpos):PE X (.Call (.Attribute o "get" apos) [e,f] [] cpos) (q0i td ty tx):=by
 intro pins s σ H Q I h
 refine wpAny_Call_method m.base m.few m.line PySem.F.plainAttrs_dict PySem.F.slot_dict_get PySem.F.type_dict_get (thn (ho pins s σ H _ I h) fun u s1 ⟨x,H1,I1,rx,a,ex,d,q1⟩=> ?_)
 subst ex
 obtain rfl:u=Value.ref a:=rx
 obtain ⟨t1,t2,_⟩:=q0g I1 d
 refine⟨t1,t2,?_⟩
 rw[m.trees]
 refine Calls.callWith_builtin rfl (Calls.evalArgs_plain (Calls.spliced_cons (thn (he pins s1 σ H1 _ I1 q1) fun iv s2 ⟨y,H2,I2,ry,q2⟩ =>
   Calls.spliced_cons (thn (hf pins s2 σ H2 _ I2 q2) fun fv s3 ⟨z,H3,I3,rz,ov,g,q3⟩=>Calls.spliced_nil ?_))))
 exact q0h hu I3 g ry rz fun w' s4 I4 rw'=>⟨_,H3,I4,rw',q3⟩
end
end L2
namespace T3
open PySem PySem.Spec PyProof.Rows L2
noncomputable abbrev St:=L2.St
theorem qkg {N:List Addr} (hN:N.Nodup) {i j:Nat} {x:Addr} (a:N[i]? =some x) (b:N[j]? =some x):i=j:=by
 obtain ⟨h1,e1⟩:=List.getElem?_eq_some_iff.mp a
 obtain ⟨h2,e2⟩:=List.getElem?_eq_some_iff.mp b
 exact(List.getElem_inj hN).mp (e1.trans e2.symm)
inductive D where
 | non | bl (b:Bool) | int (i:Int) | str (x:Str) | ty (n:String) | at_ (a:Addr) | ref (l:Nat)
 | lst (xs:List D) | tup (xs:List D) | dct (ks:List Key) (xs:List D) | obj (C:Addr) (fs:List Str) (xs:List D)
structure Wd where
 ρ:List Addr
 Z:Addr→Prop
mutual
noncomputable def Rep (w:Wd) (H:Hp):D→V→Prop
 | .non,v=>v=.non
 | .bl b,v=>v=.bl b
 | .int i,v=>v=.int i
 | .str x,v=>v=.str x
 | .ty n,v=>v=.ty n
 | .at_ a,v=>v=.ref a
 | .ref l,v=>∃ a,w.ρ[l]? =some a∧v=.ref a
 | .lst xs,v=>∃ a vs,v=.ref a∧w.Z a∧H a=some (.lst vs)∧qf w H xs vs
 | .tup xs,v=>∃ a vs,v=.ref a∧w.Z a∧H a=some (.tup vs)∧qf w H xs vs
 | .dct ks xs,v=>∃ a vs,v=.ref a∧w.Z a∧Rd H a (.dK (ks.zip vs))∧ks.length=xs.length∧qf w H xs vs
 | .obj C fs xs,v=>∃ a dx vs,v=.ref a∧w.Z a∧H a=some (.ins C dx (fs.zip vs))∧fs.length=xs.length∧qf w H xs vs
noncomputable def qf (w:Wd) (H:Hp):List D→List V→Prop
 | [],vs=>vs=[]
 | d::ds,vs=>∃ v r,vs=v::r∧Rep w H d v∧qf w H ds r
end
noncomputable def Fz (o o':Option HO):Prop:=o'=o∨∃ ob kvs,o=some (.dK kvs)∧o'=some (.frz ob (.dK kvs))
theorem Fz.trans {a b c:Option HO} (x:Fz a b) (y:Fz b c):Fz a c:=by
 rcases x with rfl | ⟨ob,kvs,rfl,rfl⟩
 · exact y
 · rcases y with rfl | ⟨_,_,e,_⟩
   · exact .inr ⟨ob,kvs,rfl,rfl⟩
   · cases e
theorem Fz.rd {H H':Hp} {a:Addr} {kvs:List (Key × V)} (x:Fz (H a) (H' a)) (h:Rd H a (.dK kvs)):Rd H' a (.dK kvs):=by
 rcases h with h | ⟨o,h⟩
 · rw[h]at x
   rcases x with x | ⟨ob,kvs',e,x⟩
   · exact .inl x
   · cases e;exact .inr ⟨ob,x⟩
 · rw[h]at x
   rcases x with x | ⟨ob,kvs',e,x⟩
   · exact .inr ⟨o,x⟩
   · cases e
structure Le (w:Wd) (H:Hp) (w':Wd) (H':Hp):Prop where
 pre:w.ρ <+: w'.ρ
 z:∀ a,w.Z a→w'.Z a
 h:∀ a,w.Z a→Fz (H a) (H' a)
theorem Le.refl (w:Wd) (H:Hp):Le w H w H:=⟨List.prefix_refl _,fun _ z=>z,fun _ _=>.inl rfl⟩
theorem Le.trans {w w1 w2:Wd} {H H1 H2:Hp} (a:Le w H w1 H1) (b:Le w1 H1 w2 H2):Le w H w2 H2 :=
 ⟨a.pre.trans b.pre,fun x z=>b.z x (a.z x z),fun x z=>(a.h x z).trans (b.h x (a.z x z))⟩
theorem Le.at_ {w w':Wd} {H H':Hp} (l:Le w H w' H') {i:Nat} {a:Addr} (h:w.ρ[i]? =some a):w'.ρ[i]? =some a:=by
 obtain ⟨r,e⟩:=l.pre
 rw[← e,List.getElem?_append_left (List.getElem?_eq_some_iff.mp h).1]
 exact h
theorem Le.lst {w w':Wd} {H H':Hp} (l:Le w H w' H') {a:Addr} {vs:List V} (z:w.Z a) (h:H a=some (.lst vs)):H' a=some (.lst vs):=by
 rcases l.h a z with e | ⟨_,_,e,_⟩
 · rw[e,h]
 · rw[h]at e;cases e
theorem Le.tup {w w':Wd} {H H':Hp} (l:Le w H w' H') {a:Addr} {vs:List V} (z:w.Z a) (h:H a=some (.tup vs)):H' a=some (.tup vs):=by
 rcases l.h a z with e | ⟨_,_,e,_⟩
 · rw[e,h]
 · rw[h]at e;cases e
theorem Le.ins {w w':Wd} {H H':Hp} (l:Le w H w' H') {a C dx:Addr} {vs:List (Str × V)} (z:w.Z a) (h:H a=some (.ins C dx vs)):H' a=some (.ins C dx vs):=by
 rcases l.h a z with e | ⟨_,_,e,_⟩
 · rw[e,h]
 · rw[h]at e;cases e
mutual
theorem Rep.mono {w w':Wd} {H H':Hp} (l:Le w H w' H'):∀ {d:D} {v:V},Rep w H d v→Rep w' H' d v
 | .non,_,h=>h
 | .bl _,_,h=>h
 | .int _,_,h=>h
 | .str _,_,h=>h
 | .ty _,_,h=>h
 | .at_ _,_,h=>h
 | .ref _,_,⟨a,e,h⟩=>⟨a,l.at_ e,h⟩
 | .lst _,_,⟨a,vs,e,z,h,r⟩=>⟨a,vs,e,l.z a z,l.lst z h,qf.mono l r⟩
 | .tup _,_,⟨a,vs,e,z,h,r⟩=>⟨a,vs,e,l.z a z,l.tup z h,qf.mono l r⟩
 | .dct _ _,_,⟨a,vs,e,z,h,n,r⟩=>⟨a,vs,e,l.z a z,(l.h a z).rd h,n,qf.mono l r⟩
 | .obj _ _ _,_,⟨a,dx,vs,e,z,h,n,r⟩=>⟨a,dx,vs,e,l.z a z,l.ins z h,n,qf.mono l r⟩
theorem qf.mono {w w':Wd} {H H':Hp} (l:Le w H w' H'):∀ {ds:List D} {vs:List V},qf w H ds vs→qf w' H' ds vs
 | [],_,h=>h
 | _::_,_,⟨v,r,e,h,t⟩=>⟨v,r,e,Rep.mono l h,qf.mono l t⟩
end
theorem qf.length {w:Wd} {H:Hp}:∀ {ds:List D} {vs:List V},qf w H ds vs→ds.length=vs.length
 | [],vs,h=>by cases (show vs=[] from h);rfl
 | _::_,_,⟨v,r,e,_,t⟩=>by rw[e,List.length_cons,List.length_cons,qf.length t]
theorem qf.get {w:Wd} {H:Hp}:∀ {ds:List D} {vs:List V} {i:Nat} {d:D},qf w H ds vs→ds[i]? =some d→∃ v,vs[i]? =some v∧Rep w H d v
 | [],_,_,_,_,e=>by simp at e
 | d'::_,_,0,d,⟨v,r,e,h,_⟩,q=>by
   subst e
   have z:d'=d:=by simpa using q
   subst z
   exact⟨v,rfl,h⟩
 | _::ds,_,i+1,d,⟨v,r,e,_,t⟩,q=>by
   subst e
   obtain ⟨u,h1,h2⟩:=qf.get (i:=i) t (by simpa using q)
   exact⟨u,by simpa using h1,h2⟩
theorem qf.get' {w:Wd} {H:Hp} {ds:List D} {vs:List V} {i:Nat} {v:V} (h:qf w H ds vs) (e:vs[i]? =some v):∃ d,ds[i]? =some d∧Rep w H d v:=by
 have hl:i < ds.length:=by rw[h.length];exact(List.getElem?_eq_some_iff.mp e).1
 obtain ⟨u,e',r⟩:=h.get (List.getElem?_eq_getElem hl)
 rw[e]at e';cases e'
 exact⟨_,List.getElem?_eq_getElem hl,r⟩
theorem qf.append {w:Wd} {H:Hp}:∀ {ds es:List D} {vs us:List V},qf w H ds vs→qf w H es us→qf w H (ds++es) (vs++us)
 | [],_,vs,_,h,k=>by cases (show vs=[] from h);exact k
 | _::_,_,_,_,⟨v,r,e,h,t⟩,k=>by subst e;exact⟨v,r++_,rfl,h,qf.append t k⟩
theorem qf.one {w:Wd} {H:Hp} {d:D} {v:V} (h:Rep w H d v):qf w H [d] [v]:=⟨v,[],rfl,h,rfl⟩
theorem qf.cons {w:Wd} {H:Hp} {d:D} {v:V} {ds:List D} {vs:List V} (h:Rep w H d v) (t:qf w H ds vs):qf w H (d::ds) (v::vs):=⟨v,vs,rfl,h,t⟩
theorem qf.set {w:Wd} {H:Hp} {d:D} {v:V} (r:Rep w H d v):∀ {ds:List D} {vs:List V} (i:Nat),qf w H ds vs→qf w H (ds.set i d) (vs.set i v)
 | [],_,_,h=>by cases (show _=[] from h);rfl
 | _::_,_,0,⟨u,s,e,h,t⟩=>by subst e;exact⟨v,s,rfl,r,t⟩
 | _::_,_,i+1,⟨u,s,e,h,t⟩=>by subst e;exact⟨u,s.set i v,rfl,h,qf.set r i t⟩
theorem qf.take {w:Wd} {H:Hp}:∀ {ds:List D} {vs:List V} (n:Nat),qf w H ds vs→qf w H (ds.take n) (vs.take n)
 | [],_,n,h=>by cases (show _=[] from h);simp [qf]
 | _::_,_,0,_=>by simp [qf]
 | _::_,_,n+1,⟨u,s,e,h,t⟩=>by subst e;exact⟨u,s.take n,rfl,h,qf.take n t⟩
theorem qf.drop {w:Wd} {H:Hp}:∀ {ds:List D} {vs:List V} (n:Nat),qf w H ds vs→qf w H (ds.drop n) (vs.drop n)
 | [],_,n,h=>by cases (show _=[] from h);simp [qf]
 | _::_,_,0,h=>h
 | _::_,_,n+1,⟨u,s,e,h,t⟩=>by subst e;exact qf.drop n t
inductive Cell where
 | gone | lst (xs:List D) | dct (ks:List Key) (xs:List D) | obj (C:Addr) (fs:List Str) (xs:List D)
noncomputable abbrev Sto:=List Cell
noncomputable def qf6 (w:Wd) (H:Hp) (a:Addr):Cell→Prop
 | .gone=>True
 | .lst xs=>¬ w.Z a∧∃ vs,H a=some (.lst vs)∧qf w H xs vs
 | .dct ks xs=>¬ w.Z a∧∃ vs,H a=some (.dK (ks.zip vs))∧ks.length=xs.length∧qf w H xs vs
 | .obj C fs xs=>¬ w.Z a∧∃ dx vs,H a=some (.ins C dx (fs.zip vs))∧fs.length=xs.length∧qf w H xs vs
structure qi (w:Wd) (H:Hp) (S:Sto):Prop where
 zin:∀ a,w.Z a→H a ≠ none
 len:w.ρ.length=S.length
 nd:w.ρ.Nodup
 rin:∀ a,a ∈ w.ρ→H a ≠ none
 cell:∀ (l:Nat) (a:Addr) (c:Cell),w.ρ[l]? =some a→S[l]? =some c→qf6 w H a c
theorem qf6.mono {w w':Wd} {H H':Hp} {a:Addr} {c:Cell} (l:Le w H w' H') (e:H' a=H a) (z:¬ w.Z a→¬ w'.Z a) (h:qf6 w H a c):qf6 w' H' a c:=by
 cases c with
 | gone=>trivial
 | lst xs=>obtain ⟨n,vs,q,r⟩:=h;exact⟨z n,vs,e.trans q,r.mono l⟩
 | dct ks xs=>obtain ⟨n,vs,q,m,r⟩:=h;exact⟨z n,vs,e.trans q,m,r.mono l⟩
 | obj C fs xs=>obtain ⟨n,dx,vs,q,m,r⟩:=h;exact⟨z n,dx,vs,e.trans q,m,r.mono l⟩
noncomputable def Wd.fix (w:Wd) (p:Addr):Wd:=⟨w.ρ,fun a=>a=p∨w.Z a⟩
theorem qcc {w:Wd} {H:Hp} {S:Sto} {p:Addr} {o:HO} (h:qi w H S) (hp:H p=none):Le w H (w.fix p) (upd H p o) :=
 ⟨List.prefix_refl _,fun _ z=>.inr z,fun a z=>.inl (qg fun e=>h.zin a z (by rw[e];exact hp))⟩
theorem qcy {w:Wd} {H:Hp} {S:Sto} {p:Addr} {o:HO} (h:qi w H S) (hp:H p=none):qi (w.fix p) (upd H p o) S:=by
 refine⟨fun a z=> ?_,h.len,h.nd,fun a m=> ?_,fun l a c e q=> ?_⟩
 · rcases z with rfl | z
   · rw[qj];simp
   · rw[qg fun e=>h.zin a z (by rw[e];exact hp)];exact h.zin a z
 · rw[qg fun e=>h.rin a m (by rw[e];exact hp)];exact h.rin a m
 · have ne:a ≠ p:=fun z=>h.rin a (List.mem_of_getElem? e) (by rw[z];exact hp)
   exact(h.cell l a c e q).mono (qcc h hp) (qg ne) fun n z=>z.elim ne n
noncomputable def Wd.more (w:Wd) (p:Addr):Wd:=⟨w.ρ++[p],w.Z⟩
theorem qlg {w:Wd} {H:Hp} {S:Sto} {p:Addr} {o:HO} (h:qi w H S) (hp:H p=none):Le w H (w.more p) (upd H p o) :=
 ⟨List.prefix_append _ _,fun _ z=>z,fun a z=>.inl (qg fun e=>h.zin a z (by rw[e];exact hp))⟩
theorem qrj {w:Wd} {H:Hp} {S:Sto} {p:Addr} {o:HO} {c:Cell} (h:qi w H S) (hp:H p=none) (hc:qf6 (w.more p) (upd H p o) p c):qi (w.more p) (upd H p o) (S++[c]):=by
 have nm:p ∉ w.ρ:=fun m=>h.rin p m hp
 refine⟨fun a z=> ?_,by simp [Wd.more,h.len],?_,fun a m=> ?_,fun l a c' e q=> ?_⟩
 · rw[qg fun e=>h.zin a z (by rw[e];exact hp)];exact h.zin a z
 · show (w.ρ++[p]).Nodup
   rw[List.nodup_append]
   exact⟨h.nd,by simp,fun a ha b hb=>by rw[List.mem_singleton.mp hb];rintro rfl;exact nm ha⟩
 · rcases List.mem_append.mp m with m | m
   · rw[qg fun e=>h.rin a m (by rw[e];exact hp)];exact h.rin a m
   · rw[List.mem_singleton.mp m,qj];simp
 · by_cases hl:l < S.length
   · rw[List.getElem?_append_left hl]at q
     have e':w.ρ[l]? =some a:=by
       have:(w.ρ++[p])[l]? =some a:=e
       rwa [List.getElem?_append_left (by rw[h.len];exact hl)]at this
     have ne:a ≠ p:=fun z=>h.rin a (List.mem_of_getElem? e') (by rw[z];exact hp)
     exact(h.cell l a c' e' q).mono (qlg h hp) (qg ne) id
   · have hl2:l=S.length:=by
       have:=(List.getElem?_eq_some_iff.mp q).1
       rw[List.length_append]at this
       simp at this
       omega
     subst hl2
     have:(w.ρ++[p])[S.length]? =some a:=e
     rw[← h.len,List.getElem?_append_right (Nat.le_refl _)]at this
     have:p=a:=by simpa using this
     subst this
     have:(S++[c])[S.length]? =some c':=q
     rw[List.getElem?_append_right (Nat.le_refl _)]at this
     have:c=c':=by simpa using this
     subst this
     exact hc
theorem qbb {w:Wd} {H:Hp} {a:Addr} {o:HO} (z:¬ w.Z a):Le w H w (upd H a o):=⟨List.prefix_refl _,fun _ z=>z,fun b zb=>.inl (qg fun e=>z (by rw[← e];exact zb))⟩
theorem qew {w:Wd} {H:Hp} {S:Sto} {l:Nat} {a:Addr} {o:HO} {c:Cell} (h:qi w H S) (e:w.ρ[l]? =some a) (z:¬ w.Z a) (hc:qf6 w (upd H a o) a c):qi w (upd H a o) (S.set l c):=by
 refine⟨fun b zb=> ?_,by simp [h.len],h.nd,fun b m=> ?_,fun j b c' ej q=> ?_⟩
 · rw[qg fun e=>z (by rw[← e];exact zb)];exact h.zin b zb
 · by_cases hb:b=a
   · rw[hb,qj];simp
   · rw[qg hb];exact h.rin b m
 · by_cases hj:j=l
   · subst hj
     rw[e]at ej;cases ej
     rw[List.getElem?_set]at q
     simp only [if_true]at q
     split at q
     · cases q;exact hc
     · cases q
   · rw[List.getElem?_set_ne (Ne.symm hj)]at q
     have ne:b ≠ a:=fun hb=>hj (by subst hb;exact(qkg h.nd e ej).symm)
     exact(h.cell j b c' ej q).mono (qbb z) (qg ne) id
theorem qcd (w:Wd) (H:Hp) (a:Addr):Le w H (w.fix a) H:=⟨List.prefix_refl _,fun _ z=>.inr z,fun _ _=>.inl rfl⟩
theorem qex {w:Wd} {H:Hp} {S:Sto} {l:Nat} {a:Addr} (h:qi w H S) (e:w.ρ[l]? =some a):qi (w.fix a) H (S.set l .gone):=by
 refine⟨fun b z=> ?_,by simp [Wd.fix,h.len],h.nd,h.rin,fun j b c ej q=> ?_⟩
 · rcases z with rfl | z
   · exact h.rin b (List.mem_of_getElem? e)
   · exact h.zin b z
 · by_cases hj:j=l
   · subst hj
     rw[List.getElem?_set]at q
     simp only [if_true]at q
     split at q
     · cases q;trivial
     · cases q
   · rw[List.getElem?_set_ne (Ne.symm hj)]at q
     have ne:b ≠ a:=fun hb=>hj (by subst hb;exact(qkg h.nd e ej).symm)
     exact(h.cell j b c ej q).mono (qcd w H a) rfl fun n z=>z.elim ne n
structure Exn where
 C:Addr
 fs:List Str
 xs:List D
inductive Out (α:Type) where
 | ok (a:α) (S:Sto) | err (x:Exn) (S:Sto) | no
noncomputable abbrev M (α:Type):=Sto→Out α
noncomputable def M.pure {α:Type} (a:α):M α:=fun S=>.ok a S
noncomputable def M.bind {α β:Type} (m:M α) (k:α→M β):M β:=fun S=>match m S with
 | .ok a S'=>k a S'
 | .err x S'=>.err x S'
 | .no=>.no
noncomputable def M.fail {α:Type}:M α:=fun _=>.no
noncomputable abbrev XW:=Exn→Wd→Hp→Prop
noncomputable def Wp {α:Type} (E:XW) (w:Wd) (H:Hp) (r:Out α) (P:α→Sto→Wd→Hp→Prop):Prop:=match r with
 | .ok a S=>∀ w' H',Le w H w' H'→qi w' H' S→P a S w' H'
 | .err x S=>∀ w' H',Le w H w' H'→qi w' H' S→E x w' H'
 | .no=>False
theorem Wp.later {α:Type} {E:XW} {w w1:Wd} {H H1:Hp} {r:Out α} {P:α→Sto→Wd→Hp→Prop} (h:Wp E w H r P) (l:Le w H w1 H1):Wp E w1 H1 r P:=by
 cases r with
 | ok a S=>exact fun w' H' l'=>h w' H' (l.trans l')
 | err x S=>exact fun w' H' l'=>h w' H' (l.trans l')
 | no=>exact h
theorem Wp.mono {α:Type} {E:XW} {w:Wd} {H:Hp} {r:Out α} {P P':α→Sto→Wd→Hp→Prop} (h:Wp E w H r P) (k:∀ a S w' H',Le w H w' H'→qi w' H' S→P a S w' H'→P' a S w' H'):Wp E w H r P':=by
 cases r with
 | ok a S=>exact fun w' H' l' q=>k a S w' H' l' q (h w' H' l' q)
 | err x S=>exact h
 | no=>exact h
theorem Wp.bind {α β:Type} {E:XW} {w:Wd} {H:Hp} {m:M α} {k:α→M β} {S:Sto} {P:β→Sto→Wd→Hp→Prop} (h:Wp E w H (M.bind m k S) P) :
   Wp E w H (m S) (fun a S1 w1 H1=>Wp E w1 H1 (k a S1) P):=by
 unfold M.bind at h
 cases e:m S with
 | ok a S1=>rw[e]at h;exact fun w' H' l _=>Wp.later h l
 | err x S1=>rw[e]at h;exact h
 | no=>rw[e]at h;exact h
noncomputable abbrev Env:=List (Option D)
structure Rel (w:Wd) (H:Hp) (σ:St) (Γ:Env):Prop where
 len:Γ.length=σ.length
 at_:∀ (i:Nat) (d:D),Γ[i]? =some (some d)→∃ v,σ[i]? =some (some v)∧Rep w H d v
theorem Rel.mono {w w':Wd} {H H':Hp} {σ:St} {Γ:Env} (r:Rel w H σ Γ) (l:Le w H w' H'):Rel w' H' σ Γ:=⟨r.len,fun i d e=>let ⟨v,e',h⟩:=r.at_ i d e;⟨v,e',h.mono l⟩⟩
theorem Rel.set {w:Wd} {H:Hp} {σ:St} {Γ:Env} {i:Nat} {d:D} {v:V} (r:Rel w H σ Γ) (h:Rep w H d v):Rel w H (σ.set i (some v)) (Γ.set i (some d)):=by
 refine⟨by simp [r.len],fun j e q=> ?_⟩
 by_cases hj:j=i
 · subst hj
   rw[List.getElem?_set]at q
   simp only [if_true]at q
   split at q
   · rename_i hl
     cases q
     exact⟨v,by simp [List.getElem?_set,r.len ▸ hl],h⟩
   · cases q
 · rw[List.getElem?_set_ne (Ne.symm hj)]at q ⊢
   exact r.at_ j e q
noncomputable def tD (E:XW) (f:Env→M D):TE:=fun σ H Q=>∃ w Γ S,Rel w H σ Γ∧qi w H S∧Wp E w H (f Γ S) fun d _ w' H'=>∀ v,Rep w' H' d v→Q v H'
noncomputable def tB (E:XW) (f:Env→M Bool):TT:=fun σ H Q=>∃ w Γ S,Rel w H σ Γ∧qi w H S∧Wp E w H (f Γ S) fun b _ _ H'=>Q b H'
noncomputable def tL (E:XW) (f:Env→M (List D)):TA:=fun σ H Q=>∃ w Γ S,Rel w H σ Γ∧qi w H S∧Wp E w H (f Γ S) fun ds _ w' H'=>∀ vs,qf w' H' ds vs→Q vs H'
theorem PE.mono {X:Cx} {e:Expr} {t t':TE} (h:PE X e t) (k:∀ σ H Q,t' σ H Q→t σ H Q):PE X e t':=fun pins s σ H Q I q=>h pins s σ H Q I (k σ H Q q)
theorem PT.mono {X:Cx} {e:Expr} {t t':TT} (h:PT X e t) (k:∀ σ H Q,t' σ H Q→t σ H Q):PT X e t':=fun pins s σ H Q I q=>h pins s σ H Q I (k σ H Q q)
theorem PA.mono {X:Cx} {e:List Expr} {t t':TA} (h:PA X e t) (k:∀ σ H Q,t' σ H Q→t σ H Q):PA X e t':=fun pos pins s σ H Q I q=>h pos pins s σ H Q I (k σ H Q q)
theorem PS.mono {X:Cx} {e:Stmt} {t t':TS} (h:PS X e t) (k:∀ D σ H,t' D σ H→t D σ H):PS X e t':=fun pins s σ H D I q=>h pins s σ H D I (k D σ H q)
theorem PSs.mono {X:Cx} {e:List Stmt} {t t':TS} (h:PSs X e t) (k:∀ D σ H,t' D σ H→t D σ H):PSs X e t':=fun pins s σ H D I q=>h pins s σ H D I (k D σ H q)
theorem qh {α:Type} {E:XW} {f:Env→M D} {k:D→Env→M α} {σ:St} {H:Hp} {w:Wd} {Γ:Env} {S:Sto} {P:α→Sto→Wd→Hp→Prop} {Q:VK} (r:Rel w H σ Γ) (h:qi w H S)
   (q:Wp E w H (M.bind (f Γ) (fun d=>k d Γ) S) P)
   (hk:∀ d v S1 w1 H1,Le w H w1 H1→Rel w1 H1 σ Γ→qi w1 H1 S1→Rep w1 H1 d v→Wp E w1 H1 (k d Γ S1) P→Q v H1):tD E f σ H Q :=
 ⟨w,Γ,S,r,h,(Wp.bind q).mono fun d S1 w1 H1 l h1 q1 v rv=>hk d v S1 w1 H1 l (r.mono l) h1 rv q1⟩
end T3
namespace L2
open PySem PySem.Spec PyProof.Rows
section
variable {prog:Program} {w:World} {A:Around} {E:Value→Shared→Prop}
theorem q3o {it l:Addr} {vs:Array Value} (hne:l ≠ it) (n:Nat):∀ (i:Nat) (s:Shared) (Q:List Value→Shared→Prop),s.heap.IsListIter it l i→s.heap.IsList l vs→i+n≤vs.size →
   (∀ h',h'.IsListIter it l (i+n)→Heap.SameBut it s.heap h'→Q ((vs.toList.drop i).take n) { s with heap:=h' })→wpAny (model prog w) A (draw (.ref it) n) Q E s:=by
 induction n with
 | zero =>
   intro i s Q hit _ _ q
   have q0:=q s.heap hit (Heap.SameBut.refl ..)
   rw[List.take_zero]at q0
   exact wpAny_pure q0
 | succ n ih =>
   intro i s Q hit ht hle q
   have hlt:i < vs.size:=by omega
   have e:(vs.toList.drop i).take (n+1)=vs[i]::(vs.toList.drop (i+1)).take n:=by
     rw[show vs.toList.drop i=vs[i]::vs.toList.drop (i+1)by simp [List.drop_eq_getElem_cons,hlt],List.take_succ_cons]
   unfold draw
   refine wpAny_bind (wpAny_pyNext_list_item hit ht (x:=vs[i]) (by simp [hlt]) fun h1 hit1 hs1=>wpAny_bind (wpAny_holding (ih (i+1) _ _ hit1 (ht.extBut hs1.extBut hne) (by omega) fun h2 hit2 hs2=>wpAny_pure ?_)))
   have q':=q h2 (by rw[show i+(n+1)=i+1+n by omega];exact hit2) (hs1.trans hs2)
   rwa [e]at q'
theorem qwn {s:Shared} {l:Addr} {vs:Array Value} {Q:List Value→Shared→Prop} (hh:A.handled=none) (ht:s.heap.IsList l vs)
   (q:∀ h',Heap.ExtBut s.heap.objs.size s.heap h'→Q vs.toList { s with heap:=h' }):wpAny (model prog w) A (unpackItems (.ref l) vs.size none) Q E s:=by
 have hlt:l ≠ s.heap.objs.size:=by obtain ⟨o,ho,_⟩:=ht;exact Nat.ne_of_lt (Heap.lt_size ho)
 have e:(vs.toList.drop 0).take vs.size=vs.toList:=by rw[List.drop_zero,List.take_of_length_le (by simp)]
 unfold unpackItems notIterableAtAll
 refine wpAny_bind (wpAny_bind (wpAny_specialOf ht.typeIs slot_list_iter.lookup (wpAny_pure ?_)))
 simp only [Bool.false_eq_true,if_false]
 refine wpAny_bind (wpAny_holding (wpAny_pyIter_list ht (wpAny_bind (wpAny_holding (q3o hlt vs.size 0 _ _ ⟨_,Heap.get?_push_size _ rfl,rfl,rfl⟩ (ht.push _) (by omega) fun h1 hit1 hs1=> ?_)))))
 rw[e,if_neg (by simp)]
 refine wpAny_bind (wpAny_holding (wpAny_pyNext_list_end hh hit1 ((ht.push _).extBut hs1.extBut hlt) (by simp) fun h2 he2=> ?_))
 simp only [Option.isSome_none,Bool.false_eq_true,if_false]
 exact wpAny_pure (q h2 fun b o hb eb=>he2 b o hb (hs1.extBut b o hb (Heap.get?_push_of_some _ eb)))
end
section
variable {X:Cx}
noncomputable def q3p (K:PySem.W.Frag) (n:Nat) (t:TGs):TG:=fun v σ H Q=>∃ a xs,v=.ref a∧SqL K H a xs∧xs.length=n∧t xs σ H Q
theorem qwo {es:List Expr} {k:Nat} {t:TGs} {n:Nat} {pos:Pos} (hc:X.calm=true) (h:PGs X es t)
   (hn:(assignEach es X.env).length=n:=by rfl) (hst:(assignEach es X.env).findIdx? (·.1)=none:=by rfl):PG X (.Tuple es k pos) (q3p X.K n t):=by
 intro pins s σ H v u Q I r hw
 obtain ⟨a,xs,e1,hq,hl,hw⟩:=hw
 subst e1
 cases r
 obtain ⟨its,rv,p,hz⟩:=I.list hq
 have hlen:=rv.length
 rw[arm_assign_Tuple]
 refine wpAny_bind (wpAny_standAt ?_)
 unfold unpack
 rw[show (assignEach es X.env).length=its.toArray.size by simp [hn,← hl,rv.length],hst]
 refine wpAny_bind (wpAny_holding (qwn (I.ok.hd hc) p.isList fun h' hx=> ?_))
 have I1:Inv X pins σ H { s with heap:=h' }:=I.kept (t':=s.toks) fun b o e=>hx b o (Nat.ne_of_lt (Heap.lt_size e)) e
 exact h pins _ σ H xs _ Q I1 (by simpa using rv) hw
noncomputable def qqh (i j:Int):Prop:=(-2582249878086908589655919172003011874329705792829223512830659356540647622016841194629645353280137831435903171972747493376 < i∧i < 2582249878086908589655919172003011874329705792829223512830659356540647622016841194629645353280137831435903171972747493376)∧ -2582249878086908589655919172003011874329705792829223512830659356540647622016841194629645353280137831435903171972747493376 < j∧j < 2582249878086908589655919172003011874329705792829223512830659356540647622016841194629645353280137831435903171972747493376
theorem qm3 {k:Int} (h1: -2582249878086908589655919172003011874329705792829223512830659356540647622016841194629645353280137831435903171972747493376 < k) (h2:k < 2582249878086908589655919172003011874329705792829223512830659356540647622016841194629645353280137831435903171972747493376):Builtin.Int.intBits k≤2 ^ 20:=by
 unfold Builtin.Int.intBits
 split
 · exact Nat.zero_le _
 · have hn:k.natAbs < 2582249878086908589655919172003011874329705792829223512830659356540647622016841194629645353280137831435903171972747493376:=by omega
   have hn2:k.natAbs < 2 ^ 400:=by
     have:(2:Nat) ^ 400=2582249878086908589655919172003011874329705792829223512830659356540647622016841194629645353280137831435903171972747493376:=by decide +kernel
     rw[this];exact hn
   have h0:k.natAbs ≠ 0:=by
     rename_i h
     intro z
     apply h
     have:k=0:=by omega
     rw[this];rfl
   have:=(Nat.log2_lt h0).mpr hn2
   have e:(2:Nat) ^ 20=1048576:=by decide
   omega
theorem qwp:OpR X (binaryOp .Mult) (rI qqh fun i j=>.int (i * j)):=opI fun _ _ _ _ _ _ _ hc q=>mul_int q (.of_bits (qm3 hc.1.1 hc.1.2) (qm3 hc.2.1 hc.2.2))
end
end L2
namespace T3
open PySem PySem.Spec PyProof.Rows L2
noncomputable def D.flat:D→Option V
 | .non=>some .non
 | .bl b=>some (.bl b)
 | .int i=>some (.int i)
 | .str x=>some (.str x)
 | _=>none
mutual
noncomputable def eqD:D→D→Option Bool
 | .lst xs,y=>match y with
   | .lst ys=>if xs.length=ys.length then qb1 xs ys else some false
   | _=>none
 | .tup xs,y=>match y with
   | .tup ys=>if xs.length=ys.length then qb1 xs ys else none
   | _=>none
 | .non,y=>y.flat.map (eqV .non)
 | .bl b,y=>y.flat.map (eqV (.bl b))
 | .int i,y=>y.flat.map (eqV (.int i))
 | .str x,y=>y.flat.map (eqV (.str x))
 | _,_=>none
noncomputable def qb1:List D→List D→Option Bool
 | [],ys=>match ys with
   | []=>some true
   | _=>none
 | x ::xs,ys=>match ys with
   | y::ys=>match eqD x y,qb1 xs ys with
     | some a,some b=>some (a && b)
     | _,_=>none
   | []=>none
end
mutual
noncomputable def D.dep:D→Nat
 | .lst xs=>qwq xs+1
 | .tup xs=>qwq xs+1
 | _=>0
noncomputable def qwq:List D→Nat
 | []=>0
 | d::ds=>max d.dep (qwq ds)
end
theorem qey:∀ {ds:List D} {i:Nat} {d:D},ds[i]? =some d→d.dep≤qwq ds
 | [],_,_,e=>by simp at e
 | x::xs,0,d,e=>by
   have:x=d:=by simpa using e
   subst this
   exact Nat.le_max_left _ _
 | x::xs,i+1,d,e=>Nat.le_trans (qey (ds:=xs) (i:=i) (by simpa using e)) (Nat.le_max_right _ _)
theorem qqi:∀ {xs ys:List D} {b:Bool} {j:Nat} {x y:D},qb1 xs ys=some b→xs[j]? =some x→ys[j]? =some y→∃ c,eqD x y=some c
 | [],ys,_,j,x,y,_,h1,_=>by simp at h1
 | _::_,[],_,j,x,y,_,_,h2=>by simp at h2
 | a ::xs,c::ys,b,j,x,y,h,h1,h2=>by
   rw[qb1]at h
   cases e1:eqD a c with
   | none=>rw[e1]at h;simp at h
   | some p =>
     cases e2:qb1 xs ys with
     | none=>rw[e1,e2]at h;simp at h
     | some q =>
       cases j with
       | zero =>
         simp at h1 h2
         subst h1 h2
         exact⟨p,e1⟩
       | succ j=>exact qqi e2 (by simpa using h1) (by simpa using h2)
noncomputable def qdh (xs ys:List D) (j:Nat):Bool:=(eqD (xs.getD j .non) (ys.getD j .non)).getD false
theorem qce:∀ {xs ys:List D} {b:Bool},qb1 xs ys=some b→(List.range xs.length).all (qdh xs ys)=b
 | [],[],b,h=>by simp [qb1]at h;simp [h]
 | [],_::_,_,h=>by simp [qb1]at h
 | _::_,[],_,h=>by simp [qb1]at h
 | x ::xs,y::ys,b,h=>by
   rw[qb1]at h
   cases e1:eqD x y with
   | none=>rw[e1]at h;simp at h
   | some p =>
     cases e2:qb1 xs ys with
     | none=>rw[e1,e2]at h;simp at h
     | some q =>
       rw[e1,e2]at h
       have h:(p && q)=b:=by simpa using h
       rw[List.length_cons,List.range_succ_eq_map,List.all_cons,List.all_map]
       have e3:(qdh (x::xs) (y::ys) ∘ Nat.succ)=qdh xs ys:=rfl
       rw[e3,qce e2,← h]
       have:qdh (x::xs) (y::ys) 0=p:=by show (eqD x y).getD false=p;rw[e1];rfl
       rw[this]
theorem qh9 {w:Wd} {H:Hp} {d:D} {v x:V} (h:Rep w H d v) (f:d.flat=some x):v=x∧qkb v=true:=by
 cases d <;> simp only [D.flat]at f <;> cases f <;> (simp only [Rep]at h;subst h;exact⟨rfl,rfl⟩)
section
variable {X:Cx} {pins:List (Addr × Obj)} {σ:St} {H:Hp} {s:Shared}
theorem qbl {w:Wd} {A:Around} {d e:D} {x y z:V} {v u:Value} {b:Bool} (hz:d.flat=some z) (q:e.flat.map (eqV z)=some b) (hx:Rep w H d x) (hy:Rep w H e y) (rx:RelV x v) (ry:RelV y u):SeqAt.EqAt A s v u b:=by
 obtain ⟨rfl,f1⟩:=qh9 hx hz
 cases he:e.flat with
 | none=>rw[he]at q;simp at q
 | some z' =>
   rw[he]at q
   obtain ⟨rfl,f2⟩:=qh9 hy he
   have:eqV x y=b:=by simpa using q
   subst this
   exact qz6 rx ry f1 f2
theorem qd6 {w:Wd} {xs ys:List D} {vs ws:List V} {ia ib:List Value} {b:Bool} (hvs:qf w H xs vs) (hws:qf w H ys ws) (ra:Vals vs ia) (rb:Vals ws ib) (hb:qb1 xs ys=some b) {j:Nat} (h1:j < ia.length) (h2:j < ib.length) :
   ∃ x y v u,xs[j]? =some x∧eqD x y=some (qdh xs ys j)∧Rep w H x v∧Rep w H y u∧RelV v ia[j]∧RelV u ib[j]:=by
 have la:=ra.length;have lb:=rb.length
 have l1:=hvs.length;have l2:=hws.length
 have hx:j < xs.length:=by omega
 have hy:j < ys.length:=by omega
 obtain ⟨v1,e1,q1⟩:=hvs.get (List.getElem?_eq_getElem hx)
 obtain ⟨v2,e2,q2⟩:=hws.get (List.getElem?_eq_getElem hy)
 obtain ⟨u1,f1,s1⟩:=ra.get e1
 obtain ⟨u2,f2,s2⟩:=rb.get e2
 obtain ⟨c,hc⟩:=qqi hb (List.getElem?_eq_getElem hx) (List.getElem?_eq_getElem hy)
 obtain ⟨_,g1⟩:=List.getElem?_eq_some_iff.mp f1
 obtain ⟨_,g2⟩:=List.getElem?_eq_some_iff.mp f2
 refine⟨xs[j],ys[j],v1,v2,List.getElem?_eq_getElem hx,?_,q1,q2,by rw[g1];exact s1,by rw[g2];exact s2⟩
 have z1:xs.getD j .non=xs[j]:=by simp [hx]
 have z2:ys.getD j .non=ys[j]:=by simp [hy]
 unfold qdh
 rw[z1,z2,hc]
 rfl
mutual
theorem Rep.uniq {w:Wd}:∀ {d e:D} {v:V} {b:Bool},Rep w H d v→Rep w H e v→eqD d e=some b→b=true
 | .non,e,v,b,h,k,q=>by
   simp only [Rep]at h;subst h
   cases e <;> simp only [Rep]at k <;> simp [eqD,D.flat,eqV]at q k <;> first | exact q.symm ▸ rfl | done
 | .bl x,e,v,b,h,k,q=>by
   simp only [Rep]at h;subst h
   cases e <;> simp only [Rep]at k <;> simp [eqD,D.flat,eqV]at q k <;> first | (subst k;simpa using q.symm) | done
 | .int x,e,v,b,h,k,q=>by
   simp only [Rep]at h;subst h
   cases e <;> simp only [Rep]at k <;> simp [eqD,D.flat,eqV]at q k <;> first | (subst k;simpa using q.symm) | done
 | .str x,e,v,b,h,k,q=>by
   simp only [Rep]at h;subst h
   cases e <;> simp only [Rep]at k <;> simp [eqD,D.flat,eqV]at q k <;> first | (subst k;simpa using q.symm) | done
 | .lst xs,e,v,b,⟨a,vs,e1,_,h1,r⟩,k,q=>by
   cases e with
   | lst ys =>
     obtain ⟨a',vs',e2,_,h2,r'⟩:=k
     rw[e1]at e2;cases e2
     rw[h1]at h2;cases h2
     rw[eqD]at q
     simp only [show xs.length=ys.length by rw[r.length,r'.length],if_true]at q
     exact qf.uniq r r' q
   | _=>simp [eqD]at q
 | .tup xs,e,v,b,⟨a,vs,e1,_,h1,r⟩,k,q=>by
   cases e with
   | tup ys =>
     obtain ⟨a',vs',e2,_,h2,r'⟩:=k
     rw[e1]at e2;cases e2
     rw[h1]at h2;cases h2
     rw[eqD]at q
     simp only [show xs.length=ys.length by rw[r.length,r'.length],if_true]at q
     exact qf.uniq r r' q
   | _=>simp [eqD]at q
 | .ty _,_,_,_,_,_,h=>by simp [eqD]at h
 | .at_ _,_,_,_,_,_,h=>by simp [eqD]at h
 | .ref _,_,_,_,_,_,h=>by simp [eqD]at h
 | .dct _ _,_,_,_,_,_,h=>by simp [eqD]at h
 | .obj _ _ _,_,_,_,_,_,h=>by simp [eqD]at h
theorem qf.uniq {w:Wd}:∀ {ds es:List D} {vs:List V} {b:Bool},qf w H ds vs→qf w H es vs→qb1 ds es=some b→b=true
 | [],[],_,b,_,_,h=>by simp [qb1]at h;exact h.symm ▸ rfl
 | [],_::_,_,_,_,_,h=>by simp [qb1]at h
 | _::_,[],_,_,_,_,h=>by simp [qb1]at h
 | d ::ds,e::es,_,b,⟨v,r,e1,hd,t⟩,⟨v',r',e2,hd',t'⟩,h=>by
   rw[e1]at e2;cases e2
   rw[qb1]at h
   cases e1:eqD d e with
   | none=>rw[e1]at h;simp at h
   | some p =>
     cases e2:qb1 ds es with
     | none=>rw[e1,e2]at h;simp at h
     | some q =>
       rw[e1,e2]at h
       have h:(p && q)=b:=by simpa using h
       rw[← h,Rep.uniq hd hd' e1,qf.uniq t t' e2]
       rfl
end
theorem qia {w:Wd} (I:Inv X pins σ H s):∀ (n:Nat) (A:Around) (d e:D) (x y:V) (v u:Value) (b:Bool),d.dep≤n→A.units+n < cLine→eqD d e=some b→Rep w H d x→Rep w H e y→RelV x v→RelV y u→SeqAt.EqAt A s v u b:=by
 intro n
 induction n with
 | zero =>
   intro A d e x y v u b hd hu hb hx hy rx ry
   cases d with
   | lst xs=>simp [D.dep]at hd
   | tup xs=>simp [D.dep]at hd
   | non=>exact qbl (d:=.non) rfl (by simpa [eqD]using hb) hx hy rx ry
   | bl b=>exact qbl (d:=.bl b) rfl (by simpa [eqD]using hb) hx hy rx ry
   | int i=>exact qbl (d:=.int i) rfl (by simpa [eqD]using hb) hx hy rx ry
   | str z=>exact qbl (d:=.str z) rfl (by simpa [eqD]using hb) hx hy rx ry
   | _=>simp [eqD]at hb
 | succ n ih =>
   intro A d e x y v u b hd hu hb hx hy rx ry
   cases d with
   | non=>exact qbl (d:=.non) rfl (by simpa [eqD]using hb) hx hy rx ry
   | bl b=>exact qbl (d:=.bl b) rfl (by simpa [eqD]using hb) hx hy rx ry
   | int i=>exact qbl (d:=.int i) rfl (by simpa [eqD]using hb) hx hy rx ry
   | str z=>exact qbl (d:=.str z) rfl (by simpa [eqD]using hb) hx hy rx ry
   | lst xs =>
     cases e with
     | lst ys =>
       have hx0:=hx;have hy0:=hy;have hb0:=hb
       obtain ⟨a,vs,rfl,_,ha,hvs⟩:=hx
       obtain ⟨c,ws,rfl,_,hc,hws⟩:=hy
       cases (show v=Value.ref a from rx);cases (show u=Value.ref c from ry)
       by_cases hab:a=c
       · subst hab
         rw[Rep.uniq hx0 hy0 hb0]
         exact .same _
       obtain ⟨ia,ra,pa,_⟩:=I.list (SqL.of ha)
       obtain ⟨ib,rb,pb,_⟩:=I.list (SqL.of hc)
       have la:=ra.length;have lb:=rb.length
       have l1:=hvs.length;have l2:=hws.length
       rw[eqD]at hb
       by_cases hxy:xs.length=ys.length
       case neg =>
         have:=SeqAt.RcAt.lists_lengths (A:=A) (s:=s) pa.isList pb.isList (by simp;omega) (by omega)
         simp only [hxy,if_false]at hb
         cases hb
         exact .of_refs hab this
       simp only [hxy,if_true]at hb
       have:=SeqAt.RcAt.lists (A:=A) (e:=qdh xs ys) pa.isList pb.isList (by simp;omega) (by omega) (fun j h1 h2=> ?_)
       · rw[show ia.toArray.size=xs.length by simp;omega,qce hb]at this
         exact .of_refs hab this
       · simp only [List.size_toArray]at h1 h2
         obtain ⟨x1,y1,v1,w1,e1,q0,q1,q2,s1,s2⟩:=qd6 hvs hws ra rb hb h1 h2
         have hdj:=qey e1
         simp only [D.dep]at hd
         exact ih A.in1 _ _ _ _ _ _ _ (by omega) (by show A.units+1+n < cLine;omega) q0 q1 q2 s1 s2
     | _=>simp [eqD]at hb
   | tup xs =>
     cases e with
     | tup ys =>
       have hx0:=hx;have hy0:=hy;have hb0:=hb
       obtain ⟨a,vs,rfl,_,ha,hvs⟩:=hx
       obtain ⟨c,ws,rfl,_,hc,hws⟩:=hy
       cases (show v=Value.ref a from rx);cases (show u=Value.ref c from ry)
       by_cases hab:a=c
       · subst hab
         rw[Rep.uniq hx0 hy0 hb0]
         exact .same _
       obtain ⟨ia,ra,pa,_⟩:=I.tuple (SqT.of ha)
       obtain ⟨ib,rb,pb,_⟩:=I.tuple (SqT.of hc)
       have la:=ra.length;have lb:=rb.length
       have l1:=hvs.length;have l2:=hws.length
       rw[eqD]at hb
       by_cases hxy:xs.length=ys.length
       case neg=>simp [hxy]at hb
       simp only [hxy,if_true]at hb
       have:=SeqAt.RcAt.tuples (A:=A) (e:=qdh xs ys) (show s.heap.IsTuple a ia.toArray from pa) (show s.heap.IsTuple c ib.toArray from pb) (by omega) (fun j h1 h2=> ?_)
       · rw[show ib.toArray.size=ia.toArray.size by simp;omega,Nat.min_self,show ia.toArray.size=xs.length by simp;omega,qce hb]at this
         simp only [beq_self_eq_true,Bool.and_true]at this
         exact .of_refs hab this
       · simp only [List.size_toArray]at h1 h2
         obtain ⟨x1,y1,v1,w1,e1,q0,q1,q2,s1,s2⟩:=qd6 hvs hws ra rb hb h1 h2
         have hdj:=qey e1
         simp only [D.dep]at hd
         exact ih A.in1 _ _ _ _ _ _ _ (by omega) (by show A.units+1+n < cLine;omega) q0 q1 q2 s1 s2
     | _=>simp [eqD]at hb
   | _=>simp [eqD]at hb
end
end T3
namespace L2
open PySem PySem.Spec PyProof.Rows
section
variable {X:Cx}
theorem qo8:OpR X (binaryOp .Mult) (fun x y H Q=>∃ z n,x=.str z∧y=.int n∧MulOk z n∧Q (.str (Txt.mul z n)) H):=by
 intro pins s σ H x y v u Q I rx ry h
 obtain ⟨z,n,rfl,rfl,hz,q⟩:=h
 obtain ⟨t,rfl⟩:=rx
 obtain ⟨t',rfl⟩:=ry
 exact SB.mul hz fun t' tk=>⟨.str (Txt.mul z n),H,I.tok _,⟨_,rfl⟩,q⟩
theorem qm4 {z:Str} {n:Int} (h0:0≤n) (h1:n≤1000) (h2:z.length≤10000):MulOk z n:=by
 refine⟨?_,fun _ _=> ?_,fun _ _=> ?_⟩
 · simp;omega
 · have:(2 ^ 63 - 1:Int) / n ≥ 10000:=by
     rw[ge_iff_le,Int.le_ediv_iff_mul_le (by omega)]
     omega
   omega
 · have h3:n.toNat≤1000:=by omega
   have h4:z.length * n.toNat≤10000 * 1000:=Nat.mul_le_mul h2 h3
   unfold Builtin.Str.tooLong
   rw[decide_eq_false_iff_not,sizeLine_eq]
   omega
theorem q0j:SlR X (fun x lo hi H Q=>∃ z,x=.str z∧z.length≤sizeLine∧Q (.str (Txt.slice z lo hi)) H):=by
 intro pins s σ H x v vl vu lo hi sl Q I rx hs pl pu h
 obtain ⟨z,rfl,hz,q⟩:=h
 obtain ⟨t,rfl⟩:=rx
 refine⟨"str",_,F.slot_str_getitem.lookup,typeIs_str _ _ _,?_⟩
 have fin:∀ (y:Str) (t':Tok) (k:Nat),y=Txt.slice z lo hi→EP X pins σ Q (.str y t') { s with toks:=k }:=fun y t' k e=>⟨.str y,H,I.tok _,⟨_,rfl⟩,by rw[e];exact q⟩
 obtain ⟨o,h1,h2,h3⟩:=hs
 cases pl <;> cases pu
 · exact wpAny_getItem_str_slice (l:=none) (u:=none) (st:=none) ⟨o,h1,h2,h3⟩ rfl (post_val_or_str ⟨Nat.le_trans (Txt.slice_le z none none) hz,fun t' k=>fin _ t' k rfl⟩)
 · rename_i j uj
   exact wpAny_getItem_str_slice (l:=none) (u:=some (j,uj)) (st:=none) ⟨o,h1,h2,h3⟩ rfl (post_val_or_str ⟨Nat.le_trans (Txt.slice_le z none (some j)) hz,fun t' k=>fin _ t' k rfl⟩)
 · rename_i i ui
   exact wpAny_getItem_str_slice (l:=some (i,ui)) (u:=none) (st:=none) ⟨o,h1,h2,h3⟩ rfl (post_val_or_str ⟨Nat.le_trans (Txt.slice_le z (some i) none) hz,fun t' k=>fin _ t' k rfl⟩)
 · rename_i i ui j uj
   exact wpAny_getItem_str_slice (l:=some (i,ui)) (u:=some (j,uj)) (st:=none) ⟨o,h1,h2,h3⟩ rfl (post_val_or_str ⟨Nat.le_trans (Txt.slice_le z (some i) (some j)) hz,fun t' k=>fin _ t' k rfl⟩)
end
end L2
namespace T3
open PySem PySem.Spec PyProof.Rows L2
noncomputable def look (d:D) (S:Sto):D:=match d with
 | .ref l=>match S[l]? with
   | some (.lst xs)=>.lst xs
   | some (.dct ks xs)=>.dct ks xs
   | some (.obj C fs xs)=>.obj C fs xs
   | _=>.ref l
 | d=>d
noncomputable abbrev PV (Q:VK):D→Sto→Wd→Hp→Prop:=fun d _ w' H'=>∀ v,Rep w' H' d v→Q v H'
section
variable {E:XW} {w:Wd} {H:Hp} {S:Sto} {d:D} {v:V} {Q:VK}
theorem qt {xs:List D} (h:qi w H S) (r:Rep w H d v) (e:look d S=.lst xs):∃ a vs,v=.ref a∧H a=some (.lst vs)∧qf w H xs vs:=by
 cases d with
 | lst ys=>cases e;obtain ⟨a,vs,e1,_,e2,e3⟩:=r;exact⟨a,vs,e1,e2,e3⟩
 | ref l =>
   unfold look at e
   dsimp only at e
   cases q:S[l]? with
   | none=>rw[q]at e;cases e
   | some c =>
     rw[q]at e
     obtain ⟨a,e1,e2⟩:=r
     have k:=h.cell l a c e1 q
     cases c with
     | lst ys=>cases e;obtain ⟨_,vs,k1,k2⟩:=k;exact⟨a,vs,e2,k1,k2⟩
     | _=>cases e
 | _=>cases e
theorem qag {xs:List D} (h:qi w H S) (r:Rep w H d v) (e:look d S=.tup xs):∃ a vs,v=.ref a∧H a=some (.tup vs)∧qf w H xs vs:=by
 cases d with
 | tup ys=>cases e;obtain ⟨a,vs,e1,_,e2,e3⟩:=r;exact⟨a,vs,e1,e2,e3⟩
 | ref l =>
   unfold look at e
   dsimp only at e
   cases q:S[l]? with
   | none=>rw[q]at e;cases e
   | some c=>rw[q]at e;cases c <;> cases e
 | _=>cases e
theorem qdr {ks:List Key} {xs:List D} (h:qi w H S) (r:Rep w H d v) (e:look d S=.dct ks xs):∃ a vs,v=.ref a∧Rd H a (.dK (ks.zip vs))∧ks.length=xs.length∧qf w H xs vs:=by
 cases d with
 | dct js ys=>cases e;obtain ⟨a,vs,e1,_,e2,e3⟩:=r;exact⟨a,vs,e1,e2,e3⟩
 | ref l =>
   unfold look at e
   dsimp only at e
   cases q:S[l]? with
   | none=>rw[q]at e;cases e
   | some c =>
     rw[q]at e
     obtain ⟨a,e1,e2⟩:=r
     have k:=h.cell l a c e1 q
     cases c with
     | dct js ys=>cases e;obtain ⟨_,vs,k1,k2⟩:=k;exact⟨a,vs,e2,.inl k1,k2⟩
     | _=>cases e
 | _=>cases e
theorem qbm {z:V} (r:Rep w H d v) (e:(look d S).flat=some z):v=z∧qkb v=true:=by
 cases d with
 | ref l =>
   unfold look at e
   dsimp only at e
   cases q:S[l]? with
   | none=>rw[q]at e;cases e
   | some c=>rw[q]at e;cases c <;> cases e
 | _=>exact qh9 r e
theorem qr {i:Int} (r:Rep w H d v) (e:look d S=.int i):v=.int i:=(qbm (S:=S) r (by rw[e];rfl)).1
theorem qa1 {i:Str} (r:Rep w H d v) (e:look d S=.str i):v=.str i:=(qbm (S:=S) r (by rw[e];rfl)).1
theorem qqj {i:Bool} (r:Rep w H d v) (e:look d S=.bl i):v=.bl i:=(qbm (S:=S) r (by rw[e];rfl)).1
theorem qfe (r:Rep w H d v) (e:look d S=.non):v=.non:=(qbm (S:=S) r (by rw[e];rfl)).1
end
noncomputable def D.cell:D→Cell
 | .lst xs=>.lst xs
 | .dct ks xs=>.dct ks xs
 | .obj C fs xs=>.obj C fs xs
 | _=>.gone
noncomputable def alloc (new:Bool) (d:D):M D:=fun S=>if new then .ok (.ref S.length) (S++[d.cell])else .ok d S
section
variable {E:XW} {w:Wd} {H:Hp} {S:Sto} {Q:VK} {new:Bool} {p:Addr}
theorem qi.noZ (h:qi w H S) (hp:H p=none):¬ w.Z p:=fun z=>h.zin p z hp
theorem qbn {xs:List D} {vs:List V} (h:qi w H S) (r:qf w H xs vs) (q:Wp E w H (alloc new (.lst xs) S) (PV Q)) (hp:H p=none):Q (.ref p) (upd H p (.lst vs)):=by
 cases new with
 | false=>exact q _ _ (qcc h hp) (qcy h hp) _ ⟨p,vs,rfl,.inl rfl,qj,r.mono (qcc h hp)⟩
 | true=>exact q _ _ (qlg h hp) (qrj h hp ⟨h.noZ hp,vs,qj,r.mono (qlg h hp)⟩) _ ⟨p,by simp [Wd.more,← h.len],rfl⟩
theorem qhi {xs:List D} {vs:List V} (h:qi w H S) (r:qf w H xs vs) (q:Wp E w H (M.pure (.tup xs) S) (PV Q)) (hp:H p=none):Q (.ref p) (upd H p (.tup vs)) :=
 q _ _ (qcc h hp) (qcy h hp) _ ⟨p,vs,rfl,.inl rfl,qj,r.mono (qcc h hp)⟩
theorem now {d:D} {v:V} (h:qi w H S) (r:Rep w H d v) (q:Wp E w H (M.pure d S) (PV Q)):Q v H:=q _ _ (Le.refl _ _) h v r
end
noncomputable def OpT (X:Cx) (F:Value→Value→Sem Value) (h:D→D→M D):Prop:=∃ r:R2,OpR X F r∧∀ (E:XW) w H S dx dy x y Q,qi w H S→Rep w H dx x→Rep w H dy y→Wp E w H (h dx dy S) (PV Q)→r x y H Q
noncomputable def sizeOk (n:Nat):Bool:=decide (n≤sizeLine)
noncomputable instance (i j:Int):Decidable (qq7 i j):=by unfold qq7;infer_instance
noncomputable instance (i j:Int):Decidable (qqh i j):=by unfold qqh;infer_instance
noncomputable def qeo (i j:Int):Bool:=decide (qq7 i j) || decide (qqh i j)
noncomputable instance (i j:Int):Decidable (qem i j):=by unfold qem;infer_instance
noncomputable instance (i j:Int):Decidable (qk1 i j):=by unfold qk1;infer_instance
noncomputable def q3q (new:Bool):D→D→M D
 | .int i,.int j=>M.pure (.int (i+j))
 | .str a,.str b=>if sizeOk (a.length+b.length)then M.pure (.str (a++b))else M.fail
 | .lst xs,.lst ys=>if sizeOk (xs.length+ys.length)then alloc new (.lst (xs++ys))else M.fail
 | .tup xs,.tup ys=>if !xs.isEmpty && sizeOk (xs.length+ys.length)then M.pure (.tup (xs++ys))else M.fail
 | _,_=>M.fail
noncomputable def q0k:D→D→M D
 | .int i,.int j=>M.pure (.int (i - j))
 | _,_=>M.fail
noncomputable def q3r (new:Bool):D→D→M D
 | .int i,.int j=>if qeo i j then M.pure (.int (i * j))else M.fail
 | .lst xs,.int k=>if decide (k < 2 ^ 63) && decide (-(2 ^ 63)≤k) && sizeOk (xs.length * k.toNat)then alloc new (.lst (List.replicate k.toNat xs).flatten)else M.fail
 | .str z,.int k=>if decide (0≤k) && decide (k≤1000) && decide (z.length≤10000)then M.pure (.str (Txt.mul z k))else M.fail
 | _,_=>M.fail
noncomputable def q3s:D→D→M D
 | .int i,.int j=>if decide (qem i j)then M.pure (.int (i / j))else M.fail
 | _,_=>M.fail
noncomputable def q3t:D→D→M D
 | .int i,.int j=>if decide (0 < j)then M.pure (.int (i % j))else M.fail
 | _,_=>M.fail
noncomputable def q3u:D→D→M D
 | .int i,.int j=>if decide (qk1 i j)then M.pure (.int (i ^ j.toNat))else M.fail
 | _,_=>M.fail
noncomputable def seen (f:D→D→M D) (x y:D):M D:=fun S=>f (look x S) (look y S) S
noncomputable def qha (new:Bool) (op:Operator):D→D→M D:=match op with
 | .Add=>seen (q3q new)
 | .Sub=>seen q0k
 | .Mult=>seen (q3r new)
 | .FloorDiv=>seen q3s
 | .Mod=>seen q3t
 | .Pow=>seen q3u
 | _=>fun _ _=>M.fail
section
variable {X:Cx}
theorem Wp.iteF {α:Type} {E:XW} {w:Wd} {H:Hp} {c:Bool} {m:M α} {S:Sto} {P:α→Sto→Wd→Hp→Prop} (h:Wp E w H ((if c=true then m else M.fail) S) P):c=true∧Wp E w H (m S) P:=by
 cases c with
 | true=>exact⟨rfl,h⟩
 | false=>exact False.elim h
theorem qf.rep {w:Wd} {H:Hp} {ds:List D} {vs:List V} (h:qf w H ds vs):∀ k:Nat,qf w H (List.replicate k ds).flatten (List.replicate k vs).flatten
 | 0=>rfl
 | k+1=>by rw[List.replicate_succ,List.replicate_succ,List.flatten_cons,List.flatten_cons];exact h.append (qf.rep h k)
theorem q0l {new:Bool}:OpT X (binaryOp .Add) (seen (q3q new)):=by
 refine⟨_,qzr.or (qox.or (qz8.or qwa)),fun E w H S dx dy x y Q h rx ry q=> ?_⟩
 unfold seen at q
 cases e1:look dx S <;> rw[e1]at q <;> first | exact False.elim q | (cases e2:look dy S <;> rw[e2]at q <;> first | exact False.elim q | skip)
 case int.int i j =>
   exact .inl ⟨i,j,qr rx e1,qr ry e2,now h (d:=.int _) rfl q⟩
 case str.str i j =>
   obtain ⟨hz,q⟩:=Wp.iteF q
   exact .inr (.inl ⟨i,j,qa1 rx e1,qa1 ry e2,of_decide_eq_true hz,now h (d:=.str _) rfl q⟩)
 case lst.lst xs ys =>
   obtain ⟨hz,q⟩:=Wp.iteF q
   obtain ⟨a,vs,z1,z2,z3⟩:=qt h rx e1
   obtain ⟨b,us,y1,y2,y3⟩:=qt h ry e2
   refine .inr (.inr (.inl ⟨a,b,vs,us,z1,y1,z2,y2,?_,fun p hp=>qbn h (z3.append y3) q hp⟩))
   rw[← z3.length,← y3.length];exact of_decide_eq_true hz
 case tup.tup xs ys =>
   obtain ⟨hz,q⟩:=Wp.iteF q
   rw[Bool.and_eq_true]at hz
   obtain ⟨a,vs,z1,z2,z3⟩:=qag h rx e1
   obtain ⟨b,us,y1,y2,y3⟩:=qag h ry e2
   refine .inr (.inr (.inr ⟨a,b,vs,us,z1,y1,SqT.of z2,SqT.of y2,?_,?_,fun e=> ?_,fun _ p hp=>qhi h (z3.append y3) q hp⟩))
   · have:=z3.length
     intro e
     rw[e]at this
     have:xs=[]:=List.length_eq_zero_iff.mp this
     rw[this]at hz
     simp at hz
   · rw[← z3.length,← y3.length];exact of_decide_eq_true hz.2
   · have hl:=y3.length
     rw[e]at hl
     have hy:ys=[]:=List.length_eq_zero_iff.mp hl
     rw[hy,List.append_nil]at q
     have:look dx S=dx:=by cases dx <;> first | rfl | (unfold look at e1;dsimp only at e1;split at e1 <;> cases e1)
     rw[this]at e1
     rw[← z1]
     exact now h (by rw[← e1];exact rx) q
theorem q0m:OpT X (binaryOp .Sub) (seen q0k):=by
 refine⟨_,qzs,fun E w H S dx dy x y Q h rx ry q=> ?_⟩
 unfold seen at q
 cases e1:look dx S <;> rw[e1]at q <;> first | exact False.elim q | (cases e2:look dy S <;> rw[e2]at q <;> first | exact False.elim q | skip)
 exact⟨_,_,qr rx e1,qr ry e2,now h (d:=.int _) rfl q⟩
theorem q0n {new:Bool}:OpT X (binaryOp .Mult) (seen (q3r new)):=by
 refine⟨_,qzt.or (qwp.or (qz9.or qo8)),fun E w H S dx dy x y Q h rx ry q=> ?_⟩
 unfold seen at q
 cases e1:look dx S <;> rw[e1]at q <;> first | exact False.elim q | (cases e2:look dy S <;> rw[e2]at q <;> first | exact False.elim q | skip)
 case int.int i j =>
   obtain ⟨hz,q⟩:=Wp.iteF q
   unfold qeo at hz
   rw[Bool.or_eq_true]at hz
   rcases hz with hz | hz
   · exact .inl ⟨i,j,qr rx e1,qr ry e2,of_decide_eq_true hz,now h (d:=.int _) rfl q⟩
   · exact .inr (.inl ⟨i,j,qr rx e1,qr ry e2,of_decide_eq_true hz,now h (d:=.int _) rfl q⟩)
 case lst.int xs k =>
   obtain ⟨hz,q⟩:=Wp.iteF q
   rw[Bool.and_eq_true,Bool.and_eq_true]at hz
   obtain ⟨a,vs,z1,z2,z3⟩:=qt h rx e1
   refine .inr (.inr (.inl ⟨a,k,vs,z1,qr ry e2,z2,of_decide_eq_true hz.1.2,of_decide_eq_true hz.1.1,?_,fun p hp=>qbn h (z3.rep _) q hp⟩))
   rw[← z3.length];exact of_decide_eq_true hz.2
 case str.int z k =>
   obtain ⟨hz,q⟩:=Wp.iteF q
   rw[Bool.and_eq_true,Bool.and_eq_true]at hz
   exact .inr (.inr (.inr ⟨z,k,qa1 rx e1,qr ry e2,qm4 (of_decide_eq_true hz.1.1) (of_decide_eq_true hz.1.2) (of_decide_eq_true hz.2),now h (d:=.str _) rfl q⟩))
theorem q0o:OpT X (binaryOp .FloorDiv) (seen q3s):=by
 refine⟨_,qs9,fun E w H S dx dy x y Q h rx ry q=> ?_⟩
 unfold seen at q
 cases e1:look dx S <;> rw[e1]at q <;> first | exact False.elim q | (cases e2:look dy S <;> rw[e2]at q <;> first | exact False.elim q | skip)
 obtain ⟨hz,q⟩:=Wp.iteF q
 exact⟨_,_,qr rx e1,qr ry e2,of_decide_eq_true hz,now h (d:=.int _) rfl q⟩
theorem q0p:OpT X (binaryOp .Mod) (seen q3t):=by
 refine⟨_,qzu,fun E w H S dx dy x y Q h rx ry q=> ?_⟩
 unfold seen at q
 cases e1:look dx S <;> rw[e1]at q <;> first | exact False.elim q | (cases e2:look dy S <;> rw[e2]at q <;> first | exact False.elim q | skip)
 obtain ⟨hz,q⟩:=Wp.iteF q
 exact⟨_,_,qr rx e1,qr ry e2,of_decide_eq_true hz,now h (d:=.int _) rfl q⟩
theorem q0q:OpT X (binaryOp .Pow) (seen q3u):=by
 refine⟨_,qzv,fun E w H S dx dy x y Q h rx ry q=> ?_⟩
 unfold seen at q
 cases e1:look dx S <;> rw[e1]at q <;> first | exact False.elim q | (cases e2:look dy S <;> rw[e2]at q <;> first | exact False.elim q | skip)
 obtain ⟨hz,q⟩:=Wp.iteF q
 exact⟨_,_,qr rx e1,qr ry e2,of_decide_eq_true hz,now h (d:=.int _) rfl q⟩
theorem qib {F:Value→Value→Sem Value}:OpT X F (fun _ _=>M.fail):=⟨fun _ _ _ _=>False,fun _ _ _ _ _ _ _ _ _ _ _ _ h=>False.elim h,fun _ _ _ _ _ _ _ _ _ _ _ _ q=>q⟩
theorem q0r {new:Bool}:∀ op:Operator,OpT X (binaryOp op) (qha new op)
 | .Add=>q0l
 | .Sub=>q0m
 | .Mult=>q0n
 | .FloorDiv=>q0o
 | .Mod=>q0p
 | .Pow=>q0q
 | .MatMult=>qib
 | .Div=>qib
 | .LShift=>qib
 | .RShift=>qib
 | .BitOr=>qib
 | .BitXor=>qib
 | .BitAnd=>qib
end
noncomputable def qto (p:Int→Int→Bool):D→D→M D
 | .int i,.int j=>M.pure (.bl (p i j))
 | _,_=>M.fail
noncomputable def eqM (neg:Bool) (x y:D):M D:=match eqD x y with
 | some b=>if decide (x.dep≤60) && (match x.flat,y.flat with | some a,some c=>qk2 a c | _,_=>true)then M.pure (.bl (neg != b))else M.fail
 | none=>M.fail
noncomputable def D.isNon:D→Bool
 | .non=>true
 | _=>false
noncomputable def isM (neg:Bool) (x y:D):M D:=match y with
 | .non=>M.pure (.bl (neg != x.isNon))
 | _=>M.fail
noncomputable def qci (d:D):List D→Option Bool
 | []=>some false
 | e::es=>match eqD e d,qci d es with
   | some a,some b=>if decide (e.dep≤60)then some (a || b)else none
   | _,_=>none
noncomputable def keyOf:D→Option Key
 | .int i=>some (.inl i)
 | .str x=>some (.inr x)
 | _=>none
noncomputable def qic (ks:List Key) (k:Key):Bool:=ks.any fun j=>decide (j=k)
noncomputable def inM (neg:Bool) (x y:D):M D:=match y with
 | .lst es=>match qci x es with
   | some b=>M.pure (.bl (neg != b))
   | none=>M.fail
 | .tup es=>match qci x es with
   | some b=>M.pure (.bl (neg != b))
   | none=>M.fail
 | .dct ks _=>match keyOf x with
   | some k=>M.pure (.bl (neg != qic ks k))
   | none=>M.fail
 | .str j=>match x with
   | .str i=>M.pure (.bl (neg != !(Builtin.Str.occurrences j i 0 j.length 1).isEmpty))
   | _=>M.fail
 | _=>M.fail
noncomputable def qa2 (op:CmpOp):D→D→M D:=match op with
 | .Lt=>seen (qto fun i j=>decide (i < j))
 | .LtE=>seen (qto fun i j=>decide (i≤j))
 | .Gt=>seen (qto fun i j=>decide (j < i))
 | .GtE=>seen (qto fun i j=>decide (j≤i))
 | .Eq=>seen (eqM false)
 | .NotEq=>seen (eqM true)
 | .Is=>seen (isM false)
 | .IsNot=>seen (isM true)
 | .In=>fun x y S=>inM false x (look y S) S
 | .NotIn=>fun x y S=>inM true x (look y S) S
theorem qhj {d:D}:∀ {es:List D} {b:Bool} {i:Nat} {e:D},qci d es=some b→es[i]? =some e→∃ c,eqD e d=some c∧e.dep≤60
 | [],_,_,_,_,h=>by simp at h
 | a ::es,b,i,e,h,h1=>by
   rw[qci]at h
   cases e1:eqD a d with
   | none=>rw[e1]at h;simp at h
   | some p =>
     cases e2:qci d es with
     | none=>rw[e1,e2]at h;simp at h
     | some q =>
       rw[e1,e2]at h
       dsimp only at h
       by_cases hd:a.dep≤60
       · cases i with
         | zero =>
           have:a=e:=by simpa using h1
           subst this
           exact⟨p,e1,hd⟩
         | succ i=>exact qhj e2 (by simpa using h1)
       · simp [hd]at h
theorem qm5 {d:D}:∀ {es:List D} {b:Bool},qci d es=some b→es.any (fun e=>(eqD e d).getD false)=b
 | [],b,h=>by simp [qci]at h;simp [h]
 | a ::es,b,h=>by
   rw[qci]at h
   cases e1:eqD a d with
   | none=>rw[e1]at h;simp at h
   | some p =>
     cases e2:qci d es with
     | none=>rw[e1,e2]at h;simp at h
     | some q =>
       rw[e1,e2]at h
       dsimp only at h
       by_cases hd:a.dep≤60
       · simp only [hd,decide_true,if_true]at h
         have h:(p || q)=b:=by simpa using h
         rw[List.any_cons,e1,qm5 e2,← h]
         rfl
       · simp [hd]at h
noncomputable def inE (its:List Value) (ds:List D) (d:D) (u:Value):Bool:= @decide (∃ (i:Nat) (e:D),its[i]? =some u∧ds[i]? =some e∧eqD e d=some true) (Classical.propDecidable _)
section
variable {X:Cx} {pins:List (Addr × Obj)} {σ:St} {H:Hp} {s:Shared}
mutual
theorem Rep.cong {w:Wd}:∀ {d e z:D} {v:V} {b c:Bool},Rep w H d v→Rep w H e v→eqD d z=some b→eqD e z=some c→b=c
 | .non,e,z,v,b,c,h,k,q1,q2=>by
   simp only [Rep]at h;subst h
   cases e with
   | non=>rw[q1]at q2;simpa using q2
   | _=>first | (simp [Rep]at k;done) | (simp [eqD]at q2;done)
 | .bl x,e,z,v,b,c,h,k,q1,q2=>by
   simp only [Rep]at h;subst h
   cases e with
   | bl y=>simp only [Rep]at k;cases k;rw[q1]at q2;simpa using q2
   | _=>first | (simp [Rep]at k;done) | (simp [eqD]at q2;done)
 | .int x,e,z,v,b,c,h,k,q1,q2=>by
   simp only [Rep]at h;subst h
   cases e with
   | int y=>simp only [Rep]at k;cases k;rw[q1]at q2;simpa using q2
   | _=>first | (simp [Rep]at k;done) | (simp [eqD]at q2;done)
 | .str x,e,z,v,b,c,h,k,q1,q2=>by
   simp only [Rep]at h;subst h
   cases e with
   | str y=>simp only [Rep]at k;cases k;rw[q1]at q2;simpa using q2
   | _=>first | (simp [Rep]at k;done) | (simp [eqD]at q2;done)
 | .lst xs,e,z,v,b,c,⟨a,vs,e1,_,h1,r⟩,k,q1,q2=>by
   subst e1
   cases e with
   | lst ys =>
     obtain ⟨a',vs',e2,_,h2,r'⟩:=k
     cases e2
     rw[h1]at h2;cases h2
     cases z with
     | lst zs =>
       rw[eqD]at q1 q2
       have l:xs.length=ys.length:=by rw[r.length,r'.length]
       by_cases hz:xs.length=zs.length
       · simp only [hz,← l,if_true]at q1 q2
         exact qf.cong r r' q1 q2
       · simp only [hz,← l,if_false]at q1 q2
         rw[q1]at q2;simpa using q2
     | _=>simp [eqD]at q1
   | tup ys=>obtain ⟨a',vs',e2,_,h2,r'⟩:=k;cases e2;rw[h1]at h2;cases h2
   | non=>simp [Rep]at k
   | bl _=>simp [Rep]at k
   | int _=>simp [Rep]at k
   | str _=>simp [Rep]at k
   | _=>simp [eqD]at q2
 | .tup xs,e,z,v,b,c,⟨a,vs,e1,_,h1,r⟩,k,q1,q2=>by
   subst e1
   cases e with
   | tup ys =>
     obtain ⟨a',vs',e2,_,h2,r'⟩:=k
     cases e2
     rw[h1]at h2;cases h2
     cases z with
     | tup zs =>
       rw[eqD]at q1 q2
       have l:xs.length=ys.length:=by rw[r.length,r'.length]
       by_cases hz:xs.length=zs.length
       · simp only [hz,← l,if_true]at q1 q2
         exact qf.cong r r' q1 q2
       · simp only [hz,if_false]at q1;cases q1
     | _=>simp [eqD]at q1
   | lst ys=>obtain ⟨a',vs',e2,_,h2,r'⟩:=k;cases e2;rw[h1]at h2;cases h2
   | non=>simp [Rep]at k
   | bl _=>simp [Rep]at k
   | int _=>simp [Rep]at k
   | str _=>simp [Rep]at k
   | _=>simp [eqD]at q2
 | .ty _,_,_,_,_,_,_,_,h,_=>by simp [eqD]at h
 | .at_ _,_,_,_,_,_,_,_,h,_=>by simp [eqD]at h
 | .ref _,_,_,_,_,_,_,_,h,_=>by simp [eqD]at h
 | .dct _ _,_,_,_,_,_,_,_,h,_=>by simp [eqD]at h
 | .obj _ _ _,_,_,_,_,_,_,_,h,_=>by simp [eqD]at h
theorem qf.cong {w:Wd}:∀ {ds es zs:List D} {vs:List V} {b c:Bool},qf w H ds vs→qf w H es vs→qb1 ds zs=some b→qb1 es zs=some c→b=c
 | [],es,zs,vs,b,c,h,k,q1,q2=>by
   cases (show vs=[] from h)
   cases es with
   | nil=>rw[q1]at q2;simpa using q2
   | cons e es=>obtain ⟨_,_,z,_⟩:=k;cases z
 | d::ds,[],zs,vs,b,c,⟨v,r,e1,hd,t⟩,k,q1,q2=>by
   cases (show vs=[] from k)
   cases e1
 | d::ds,e::es,[],vs,b,c,_,_,q1,q2=>by simp [qb1]at q1
 | d ::ds,e::es,z::zs,vs,b,c,⟨v,r,e1,hd,t⟩,⟨v',r',e2,hd',t'⟩,q1,q2=>by
   rw[e1]at e2;cases e2
   rw[qb1]at q1 q2
   cases a1:eqD d z with
   | none=>rw[a1]at q1;simp at q1
   | some p =>
     cases a2:qb1 ds zs with
     | none=>rw[a1,a2]at q1;simp at q1
     | some p' =>
       cases b1:eqD e z with
       | none=>rw[b1]at q2;simp at q2
       | some q =>
         cases b2:qb1 es zs with
         | none=>rw[b1,b2]at q2;simp at q2
         | some q' =>
           rw[a1,a2]at q1
           rw[b1,b2]at q2
           rw[Rep.cong hd hd' a1 b1,qf.cong t t' a2 b2]at q1
           rw[q1]at q2
           simpa using q2
end
theorem qo9 {w:Wd} {its:List Value} {vs:List V} {ds:List D} {d:D} (hvs:qf w H ds vs) (r:Vals vs its) {i:Nat} {u:Value} {e:D} {c:Bool} (hk:∀ (j:Nat) (f:D),ds[j]? =some f→∃ c,eqD f d=some c) (hu:its[i]? =some u) (he:ds[i]? =some e) (hc:eqD e d=some c):inE its ds d u=c:=by
 unfold inE
 cases c with
 | true=>exact @decide_eq_true _ (Classical.propDecidable _) ⟨i,e,hu,he,hc⟩
 | false =>
   refine @decide_eq_false _ (Classical.propDecidable _) ?_
   rintro ⟨j,e',hu',he',h'⟩
   obtain ⟨v1,f1,q1⟩:=hvs.get he
   obtain ⟨v2,f2,q2⟩:=hvs.get he'
   obtain ⟨u1,g1,r1⟩:=r.get f1
   obtain ⟨u2,g2,r2⟩:=r.get f2
   rw[hu]at g1;cases g1
   rw[hu']at g2;cases g2
   cases r1.inj r2
   have:=Rep.cong q1 q2 hc h'
   cases this
theorem qhk {w:Wd} {its:List Value} {vs:List V} {ds:List D} {d:D} {b:Bool} (hvs:qf w H ds vs) (r:Vals vs its) (hb:qci d ds=some b):its.any (inE its ds d)=b:=by
 have l1:=hvs.length
 have l2:=r.length
 have hk:∀ (j:Nat) (f:D),ds[j]? =some f→∃ c,eqD f d=some c:=fun j f e=>let ⟨c,h,_⟩:=qhj hb e;⟨c,h⟩
 rw[← qm5 hb,Bool.eq_iff_iff,List.any_eq_true,List.any_eq_true]
 constructor
 · rintro ⟨u,hu,h⟩
   obtain ⟨i,hi,rfl⟩:=List.getElem_of_mem hu
   have hi2:i < ds.length:=by omega
   obtain ⟨c,hc⟩:=hk i ds[i] (List.getElem?_eq_getElem hi2)
   rw[qo9 hvs r hk (List.getElem?_eq_getElem hi) (List.getElem?_eq_getElem hi2) hc]at h
   exact⟨ds[i],List.getElem_mem hi2,by rw[hc];exact h⟩
 · rintro ⟨e,he,h⟩
   obtain ⟨i,hi,rfl⟩:=List.getElem_of_mem he
   have hi2:i < its.length:=by omega
   obtain ⟨c,hc⟩:=hk i ds[i] (List.getElem?_eq_getElem hi)
   rw[hc]at h
   exact⟨its[i],List.getElem_mem hi2,by rw[qo9 hvs r hk (List.getElem?_eq_getElem hi2) (List.getElem?_eq_getElem hi) hc];exact h⟩
theorem qff {w:Wd} {A:Around} (I:Inv X pins σ H s) {its:List Value} {vs:List V} {ds:List D} {d:D} {x:V} {v:Value} {b:Bool} (hu:A.units+60 < cLine) (hvs:qf w H ds vs) (r:Vals vs its) (hx:Rep w H d x) (rx:RelV x v) (hb:qci d ds=some b) :
   ∀ y,y ∈ its→SeqAt.EqAt A s y v (inE its ds d y):=fun y hy=>by
 have l1:=hvs.length
 have l2:=r.length
 obtain ⟨i,hi,rfl⟩:=List.getElem_of_mem hy
 have hi2:i < ds.length:=by omega
 obtain ⟨c,hc,hdp⟩:=qhj hb (List.getElem?_eq_getElem hi2)
 rw[qo9 hvs r (fun j f e=>let ⟨c,h,_⟩:=qhj hb e;⟨c,h⟩) (List.getElem?_eq_getElem hi) (List.getElem?_eq_getElem hi2) hc]
 obtain ⟨v1,f1,q1⟩:=hvs.get (List.getElem?_eq_getElem hi2)
 obtain ⟨u1,g1,r1⟩:=r.get f1
 obtain ⟨_,e1⟩:=List.getElem?_eq_some_iff.mp g1
 rw[e1]
 exact qia I 60 A _ _ _ _ _ _ _ hdp hu hc q1 hx r1 rx
theorem Rep.isNon {w:Wd} {d:D} {v:V} (h:Rep w H d v):decide (v=.non)=d.isNon:=by
 cases d <;> simp only [Rep]at h <;> first
   | (subst h;rfl)
   | (obtain ⟨_,_,h⟩:=h;subst h;rfl)
   | (obtain ⟨_,_,h,_⟩:=h;subst h;rfl)
   | (obtain ⟨_,_,_,h,_⟩:=h;subst h;rfl)
theorem qid {d:D} {S:Sto}:(look d S).isNon=d.isNon:=by
 cases d <;> first | rfl | skip
 case ref l =>
   unfold look
   dsimp only
   cases S[l]? with
   | none=>rfl
   | some c=>cases c <;> rfl
theorem qhl {op:CmpOp} {p:Int→Int→Bool} (ho:OpR X (compareOp op) (rI0 fun i j=>.bl (p i j))):OpT X (compareOp op) (seen (qto p)):=by
 refine⟨_,ho,fun E w H S dx dy x y Q h rx ry q=> ?_⟩
 unfold seen at q
 cases e1:look dx S <;> cases e2:look dy S <;> rw[e1,e2]at q <;> first | exact False.elim q | skip
 exact⟨_,_,qr rx e1,qr ry e2,now h (d:=.bl _) rfl q⟩
theorem q3v:OpT X (compareOp .Is) (seen (isM false)):=by
 refine⟨_,qzw,fun E w H S dx dy x y Q h rx ry q=> ?_⟩
 unfold seen at q
 cases e2:look dy S <;> rw[e2]at q <;> first | exact False.elim q | skip
 refine⟨qfe ry e2,?_⟩
 have:=now h (d:=.bl _) rfl q
 rw[qid]at this
 rw[rx.isNon]
 simpa using this
theorem qtp:OpT X (compareOp .IsNot) (seen (isM true)):=by
 refine⟨_,qv5,fun E w H S dx dy x y Q h rx ry q=> ?_⟩
 unfold seen at q
 cases e2:look dy S <;> rw[e2]at q <;> first | exact False.elim q | skip
 refine⟨qfe ry e2,?_⟩
 have:=now h (d:=.bl _) rfl q
 rw[qid]at this
 rw[rx.isNon]
 simpa using this
theorem qqk {x y:V} (h:qk2 x y=true) (f:qkb x=true) (g:qkb y=true):decide (x=y)=eqV x y:=by
 cases x <;> cases y <;> first | (cases h;done) | (cases f;done) | (cases g;done) | rfl | exact qk3 | (show decide _=(_==_);simp [Bool.beq_eq_decide_eq])
theorem qm6 {d e:D} {z:V} (hz:d.flat=some z):eqD d e=e.flat.map (eqV z):=by
 cases d <;> simp only [D.flat]at hz <;> first | (cases hz;done) | (cases hz;rw[eqD])
theorem qkh {d e:D} {b:Bool} (hz:d.flat=none) (hb:eqD d e=some b):(∃ xs ys,d=.lst xs∧e=.lst ys)∨(∃ xs ys,d=.tup xs∧e=.tup ys):=by
 cases d <;> simp only [D.flat]at hz <;> first | (cases hz;done) | skip
 case lst xs=>cases e <;> first | exact .inl ⟨_,_,rfl,rfl⟩ | (simp [eqD]at hb;done)
 case tup xs=>cases e <;> first | exact .inr ⟨_,_,rfl,rfl⟩ | (simp [eqD]at hb;done)
 all_goals simp [eqD]at hb
noncomputable def q0s (neg:Bool):R2:=fun x y H Q=>∃ (w:Wd) (S:Sto) (dx dy:D) (b:Bool),qi w H S∧Rep w H dx x∧Rep w H dy y∧eqD (look dx S) (look dy S)=some b∧(look dx S).dep≤60∧(match (look dx S).flat,(look dy S).flat with | some a,some c=>qk2 a c | _,_=>true)=true∧Q (.bl (neg != b)) H
theorem q0t (hu:X.A.units+64 < cLine):OpR X (compareOp .Eq) (q0s false):=by
 intro pins s σ H x y v u Q I rx ry h
 obtain ⟨w,S,dx,dy,b,h,r1,r2,hb,hd,hs,q⟩:=h
 cases hz:(look dx S).flat with
 | some z =>
   rw[qm6 hz]at hb
   cases he:(look dy S).flat with
   | none=>rw[he]at hb;simp at hb
   | some z' =>
     rw[he]at hb
     rw[hz,he]at hs
     obtain ⟨rfl,f1⟩:=qbm r1 hz
     obtain ⟨rfl,f2⟩:=qbm r2 he
     have hb:eqV x y=b:=by simpa using hb
     refine q23 pins s σ H x y v u Q I rx ry ⟨hs,?_⟩
     rw[qqk hs f1 f2,hb]
     simpa using q
 | none =>
   rcases qkh hz hb with ⟨xs,ys,z1,z2⟩ | ⟨xs,ys,z1,z2⟩
   · obtain ⟨a,vs,rfl,ha,hvs⟩:=qt h r1 z1
     obtain ⟨c,ws,rfl,hc,hws⟩:=qt h r2 z2
     rw[z1,z2,eqD]at hb
     cases (show v=Value.ref a from rx);cases (show u=Value.ref c from ry)
     obtain ⟨ia,ra,pa,_⟩:=I.list (SqL.of ha)
     obtain ⟨ib,rb,pb,_⟩:=I.list (SqL.of hc)
     have la:=ra.length;have lb:=rb.length
     have l1:=hvs.length;have l2:=hws.length
     by_cases hxy:xs.length=ys.length
     case neg =>
       simp only [hxy,if_false]at hb
       cases hb
       exact SeqAt.eq_list_lengthsAt pa.isList pb.isList (by simp;omega) (by omega) ⟨.bl _,H,I,rfl,by simpa using q⟩
     simp only [hxy,if_true]at hb
     rw[z1]at hd
     simp only [D.dep]at hd
     refine SeqAt.eq_listAt (e:=qdh xs ys) pa.isList pb.isList (by simp;omega) (by omega) (fun j h1 h2=> ?_) ?_
     · simp only [List.size_toArray]at h1 h2
       obtain ⟨x1,y1,v1,w1,e1,q0,q1,q2,s1,s2⟩:=qd6 hvs hws ra rb hb h1 h2
       have hdj:=qey e1
       exact qia I 60 X.A.in1 _ _ _ _ _ _ _ (by omega) (by show X.A.units+1+60 < cLine;omega) q0 q1 q2 s1 s2
     · rw[show ia.toArray.size=xs.length by simp;omega,qce hb]
       exact⟨.bl _,H,I,rfl,by simpa using q⟩
   · obtain ⟨a,vs,rfl,ha,hvs⟩:=qag h r1 z1
     obtain ⟨c,ws,rfl,hc,hws⟩:=qag h r2 z2
     rw[z1,z2,eqD]at hb
     cases (show v=Value.ref a from rx);cases (show u=Value.ref c from ry)
     obtain ⟨ia,ra,pa,_⟩:=I.tuple (SqT.of ha)
     obtain ⟨ib,rb,pb,_⟩:=I.tuple (SqT.of hc)
     have la:=ra.length;have lb:=rb.length
     have l1:=hvs.length;have l2:=hws.length
     by_cases hxy:xs.length=ys.length
     case neg=>simp [hxy]at hb
     simp only [hxy,if_true]at hb
     rw[z1]at hd
     simp only [D.dep]at hd
     refine SeqAt.eq_tupleAt (e:=qdh xs ys) (show s.heap.IsTuple a ia.toArray from pa) (show s.heap.IsTuple c ib.toArray from pb) (by omega) (fun j h1 h2=> ?_) ?_
     · simp only [List.size_toArray]at h1 h2
       obtain ⟨x1,y1,v1,w1,e1,q0,q1,q2,s1,s2⟩:=qd6 hvs hws ra rb hb h1 h2
       have hdj:=qey e1
       exact qia I 60 X.A.in1 _ _ _ _ _ _ _ (by omega) (by show X.A.units+1+60 < cLine;omega) q0 q1 q2 s1 s2
     · rw[show ib.toArray.size=ia.toArray.size by simp;omega,Nat.min_self,show ia.toArray.size=xs.length by simp;omega,qce hb]
       simp only [beq_self_eq_true,Bool.and_true]
       exact⟨.bl _,H,I,rfl,by simpa using q⟩
theorem q0u (hu:X.A.units+64 < cLine):OpR X (compareOp .NotEq) (q0s true):=by
 intro pins s σ H x y v u Q I rx ry h
 obtain ⟨w,S,dx,dy,b,h,r1,r2,hb,hd,hs,q⟩:=h
 cases hz:(look dx S).flat with
 | some z =>
   rw[qm6 hz]at hb
   cases he:(look dy S).flat with
   | none=>rw[he]at hb;simp at hb
   | some z' =>
     rw[he]at hb
     rw[hz,he]at hs
     obtain ⟨rfl,f1⟩:=qbm r1 hz
     obtain ⟨rfl,f2⟩:=qbm r2 he
     have hb:eqV x y=b:=by simpa using hb
     refine q24 pins s σ H x y v u Q I rx ry ⟨hs,?_⟩
     rw[qqk hs f1 f2,hb]
     simpa using q
 | none =>
   rcases qkh hz hb with ⟨xs,ys,z1,z2⟩ | ⟨xs,ys,z1,z2⟩
   · obtain ⟨a,vs,rfl,ha,hvs⟩:=qt h r1 z1
     obtain ⟨c,ws,rfl,hc,hws⟩:=qt h r2 z2
     rw[z1,z2,eqD]at hb
     cases (show v=Value.ref a from rx);cases (show u=Value.ref c from ry)
     obtain ⟨ia,ra,pa,_⟩:=I.list (SqL.of ha)
     obtain ⟨ib,rb,pb,_⟩:=I.list (SqL.of hc)
     have la:=ra.length;have lb:=rb.length
     have l1:=hvs.length;have l2:=hws.length
     by_cases hxy:xs.length=ys.length
     case neg =>
       simp only [hxy,if_false]at hb
       cases hb
       exact of_rcne (SeqAt.RcNeAt.lists_lengths pa.isList pb.isList (by simp;omega) (by omega)) ⟨.bl _,H,I,rfl,by simpa using q⟩
     simp only [hxy,if_true]at hb
     rw[z1]at hd
     simp only [D.dep]at hd
     refine of_rcne (SeqAt.RcNeAt.lists (e:=qdh xs ys) pa.isList pb.isList (by simp;omega) (by omega) (fun j h1 h2=> ?_)) ?_
     · simp only [List.size_toArray]at h1 h2
       obtain ⟨x1,y1,v1,w1,e1,q0,q1,q2,s1,s2⟩:=qd6 hvs hws ra rb hb h1 h2
       have hdj:=qey e1
       exact qia I 60 X.A.in1 _ _ _ _ _ _ _ (by omega) (by show X.A.units+1+60 < cLine;omega) q0 q1 q2 s1 s2
     · rw[show ia.toArray.size=xs.length by simp;omega,qce hb]
       exact⟨.bl _,H,I,rfl,by simpa using q⟩
   · obtain ⟨a,vs,rfl,ha,hvs⟩:=qag h r1 z1
     obtain ⟨c,ws,rfl,hc,hws⟩:=qag h r2 z2
     rw[z1,z2,eqD]at hb
     cases (show v=Value.ref a from rx);cases (show u=Value.ref c from ry)
     obtain ⟨ia,ra,pa,_⟩:=I.tuple (SqT.of ha)
     obtain ⟨ib,rb,pb,_⟩:=I.tuple (SqT.of hc)
     have la:=ra.length;have lb:=rb.length
     have l1:=hvs.length;have l2:=hws.length
     by_cases hxy:xs.length=ys.length
     case neg=>simp [hxy]at hb
     simp only [hxy,if_true]at hb
     rw[z1]at hd
     simp only [D.dep]at hd
     refine of_rcne (SeqAt.RcNeAt.tuples (e:=qdh xs ys) (show s.heap.IsTuple a ia.toArray from pa) (show s.heap.IsTuple c ib.toArray from pb) (by omega) (fun j h1 h2=> ?_)) ?_
     · simp only [List.size_toArray]at h1 h2
       obtain ⟨x1,y1,v1,w1,e1,q0,q1,q2,s1,s2⟩:=qd6 hvs hws ra rb hb h1 h2
       have hdj:=qey e1
       exact qia I 60 X.A.in1 _ _ _ _ _ _ _ (by omega) (by show X.A.units+1+60 < cLine;omega) q0 q1 q2 s1 s2
     · rw[show ib.toArray.size=ia.toArray.size by simp;omega,Nat.min_self,show ia.toArray.size=xs.length by simp;omega,qce hb]
       simp only [beq_self_eq_true,Bool.and_true]
       exact⟨.bl _,H,I,rfl,by simpa using q⟩
theorem qyu {neg:Bool} {op:CmpOp} (ho:OpR X (compareOp op) (q0s neg)):OpT X (compareOp op) (seen (eqM neg)):=by
 refine⟨_,ho,fun E w H S dx dy x y Q h rx ry q=> ?_⟩
 unfold seen eqM at q
 cases e:eqD (look dx S) (look dy S)with
 | none=>rw[e]at q;exact False.elim q
 | some b =>
   rw[e]at q
   obtain ⟨hz,q⟩:=Wp.iteF q
   rw[Bool.and_eq_true]at hz
   exact⟨w,S,dx,dy,b,h,rx,ry,e,of_decide_eq_true hz.1,hz.2,now h (d:=.bl _) rfl q⟩
noncomputable def q0v (neg:Bool):R2:=fun x y H Q=>∃ (w:Wd) (p:Addr) (vs:List V) (ds:List D) (d:D) (b:Bool),y=.ref p∧(H p=some (.lst vs)∨H p=some (.tup vs))∧qf w H ds vs∧Rep w H d x∧qci d ds=some b∧Q (.bl (neg != b)) H
theorem q0w (hu:X.A.units+64 < cLine):OpR X (compareOp .In) (q0v false):=by
 intro pins s σ H x y v u Q I rx ry h
 obtain ⟨w,p,vs,ds,d,b,rfl,hp,hvs,hx,hk,q⟩:=h
 cases ry
 rcases hp with hp | hp
 · obtain ⟨its,r,pl,hz⟩:=I.list (SqL.of hp)
   refine SeqAt.in_listAt (inE its ds d) pl.isList (fun w hw=>qff I (A:=X.A.in1) (by show X.A.units+1+60 < cLine;omega) hvs r hx rx hk w (by simpa using hw)) ⟨.bl _,H,I,rfl,?_⟩
   rw[show its.toArray.any (inE its ds d)=its.any (inE its ds d)by simp,qhk hvs r hk]
   simpa using q
 · obtain ⟨its,r,pl,hz⟩:=I.tuple (SqT.of hp)
   refine SeqAt.in_tupleAt (inE its ds d) (show s.heap.IsTuple p its.toArray from pl) (fun w hw=>qff I (A:=X.A.in1) (by show X.A.units+1+60 < cLine;omega) hvs r hx rx hk w (by simpa using hw)) ⟨.bl _,H,I,rfl,?_⟩
   rw[show its.toArray.any (inE its ds d)=its.any (inE its ds d)by simp,qhk hvs r hk]
   simpa using q
theorem qrk (hu:X.A.units+64 < cLine):OpR X (compareOp .NotIn) (q0v true):=by
 intro pins s σ H x y v u Q I rx ry h
 obtain ⟨w,p,vs,ds,d,b,rfl,hp,hvs,hx,hk,q⟩:=h
 cases ry
 rcases hp with hp | hp
 · obtain ⟨its,r,pl,hz⟩:=I.list (SqL.of hp)
   refine SeqAt.notIn_listAt (inE its ds d) pl.isList (fun w hw=>qff I (A:=X.A.in1) (by show X.A.units+1+60 < cLine;omega) hvs r hx rx hk w (by simpa using hw)) ⟨.bl _,H,I,rfl,?_⟩
   rw[show its.toArray.any (inE its ds d)=its.any (inE its ds d)by simp,qhk hvs r hk]
   simpa using q
 · obtain ⟨its,r,pl,hz⟩:=I.tuple (SqT.of hp)
   refine SeqAt.notIn_tupleAt (inE its ds d) (show s.heap.IsTuple p its.toArray from pl) (fun w hw=>qff I (A:=X.A.in1) (by show X.A.units+1+60 < cLine;omega) hvs r hx rx hk w (by simpa using hw)) ⟨.bl _,H,I,rfl,?_⟩
   rw[show its.toArray.any (inE its ds d)=its.any (inE its ds d)by simp,qhk hvs r hk]
   simpa using q
theorem qtq (hu:X.A.units+1 < cLine):OpR X (compareOp .In) (fun x y H Q=>∃ a o,y=.ref a∧qf5 H a x o∧Q (.bl o.isSome) H):=by
 intro pins s σ H x y v u Q I rx ry h
 obtain ⟨a,o,rfl,g,q⟩:=h
 cases (show u=Value.ref a from ry)
 exact q6p hu I g rx fun s' I'=>⟨.bl _,H,I',rfl,q⟩
theorem qm7 (hu:X.A.units+1 < cLine):OpR X (compareOp .NotIn) (fun x y H Q=>∃ a o,y=.ref a∧qf5 H a x o∧Q (.bl (!o.isSome)) H):=by
 intro pins s σ H x y v u Q I rx ry h
 obtain ⟨a,o,rfl,g,q⟩:=h
 cases (show u=Value.ref a from ry)
 exact qwi hu I g rx fun s' I'=>⟨.bl _,H,I',rfl,q⟩
theorem qlh {H:Hp} {a:Addr} {kvs:List (Key × V)} {k:Key} (e:Rd H a (.dK kvs)):qf5 H a (kV k) (qej kvs k):=.inl ⟨kvs,k,e,rfl,rfl⟩
theorem qm8:∀ {ks:List Key} {vs:List V} (k:Key),ks.length=vs.length→(qej (ks.zip vs) k).isSome=qic ks k
 | [],[],k,_=>rfl
 | [],_::_,_,h=>by simp at h
 | _::_,[],_,h=>by simp at h
 | j ::ks,v::vs,k,h=>by
   rw[List.zip_cons_cons]
   by_cases e:j=k
   · rw[qcw e];simp [qic,e]
   · rw[qcx e,qm8 k (by simpa using h)]
     simp [qic,e]
theorem qtr {w:Wd} {S:Sto} {d:D} {v:V} {k:Key} (r:Rep w H d v) (e:keyOf (look d S)=some k):v=kV k:=by
 cases h:look d S <;> rw[h]at e <;> simp only [keyOf]at e <;> first | (cases e;done) | skip
 · cases e;exact qr r h
 · cases e;exact qa1 r h
theorem qyv {neg:Bool} {op:CmpOp} (ho:OpR X (compareOp op) (q0v neg)) (hd:OpR X (compareOp op) (fun x y H Q=>∃ a o,y=.ref a∧qf5 H a x o∧Q (.bl (neg != o.isSome)) H))
   (hs:OpR X (compareOp op) (fun x y H Q=>∃ i j,x=.str i∧y=.str j∧Q (.bl (neg != !(Builtin.Str.occurrences j i 0 j.length 1).isEmpty)) H)):OpT X (compareOp op) (fun x y S=>inM neg x (look y S) S):=by
 refine⟨_,ho.or (hd.or hs),fun E w H S dx dy x y Q h rx ry q=> ?_⟩
 dsimp only at q
 unfold inM at q
 cases e2:look dy S <;> rw[e2]at q <;> first | exact False.elim q | skip
 case lst es =>
   dsimp only at q
   cases e:qci dx es with
   | none=>rw[e]at q;exact False.elim q
   | some b =>
     rw[e]at q
     obtain ⟨a,vs,rfl,ha,hvs⟩:=qt h ry e2
     exact .inl ⟨w,a,vs,es,dx,b,rfl,.inl ha,hvs,rx,e,now h (d:=.bl _) rfl q⟩
 case tup es =>
   dsimp only at q
   cases e:qci dx es with
   | none=>rw[e]at q;exact False.elim q
   | some b =>
     rw[e]at q
     obtain ⟨a,vs,rfl,ha,hvs⟩:=qag h ry e2
     exact .inl ⟨w,a,vs,es,dx,b,rfl,.inr ha,hvs,rx,e,now h (d:=.bl _) rfl q⟩
 case dct ks xs =>
   dsimp only at q
   cases e:keyOf dx with
   | none=>rw[e]at q;exact False.elim q
   | some k =>
     rw[e]at q
     obtain ⟨a,vs,rfl,ha,hl,hvs⟩:=qdr h ry e2
     have e':keyOf (look dx S)=some k:=by cases dx <;> first | exact e | (cases e;done)
     refine .inr (.inl ⟨a,_,rfl,by rw[qtr rx e'];exact qlh ha,?_⟩)
     rw[qm8 k (by rw[hl,hvs.length])]
     exact now h (d:=.bl _) rfl q
 case str j =>
   cases dx <;> first | exact False.elim q | skip
   case str i=>exact .inr (.inr ⟨i,j,rx,qa1 ry e2,now h (d:=.bl _) rfl q⟩)
theorem qf7 (hu:X.A.units+64 < cLine):∀ op:CmpOp,OpT X (compareOp op) (qa2 op)
 | .Lt=>qhl q25
 | .LtE=>qhl q26
 | .Gt=>qhl q27
 | .GtE=>qhl q28
 | .Eq=>qyu (q0t hu)
 | .NotEq=>qyu (q0u hu)
 | .Is=>q3v
 | .IsNot=>qtp
 | .In=>qyv (q0w hu) (by simpa using qtq (Nat.lt_of_le_of_lt (by omega) hu)) (by simpa using qq8)
 | .NotIn=>qyv (qrk hu) (by simpa using qm7 (Nat.lt_of_le_of_lt (by omega) hu)) (by simpa using qk4)
end
theorem qds {α β:Type} {xs:List α} {ys:List β} (h:xs.length=ys.length):xs.isEmpty=ys.isEmpty:=by
 cases xs <;> cases ys <;> first | rfl | (simp at h;done)
noncomputable def qjj (i:Nat) (Γ:Env):M D:=match Γ[i]? with
 | some (some d)=>M.pure d
 | _=>M.fail
noncomputable def asB:D→M Bool
 | .bl b=>M.pure b
 | _=>M.fail
noncomputable def qrl (d:D):M Bool:=fun S=>match look d S with
 | .non=>M.pure false S
 | .bl b=>M.pure b S
 | .int i=>M.pure (i != 0) S
 | .str y=>(if sizeOk y.length then M.pure ((y.length:Int) != 0)else M.fail) S
 | .lst xs=>M.pure (!xs.isEmpty) S
 | .tup xs=>M.pure (!xs.isEmpty) S
 | .dct ks _=>M.pure (!ks.isEmpty) S
 | _=>M.fail S
section
variable {X:Cx} {E:XW} {a b c:Expr} {f g h':Env→M D} {pos:Pos}
theorem q3w {i:Nat} {x:Str} (hN:X.N[i]? =some x) (hv:Vis X.env.scope x) (hd:(x==("__debug__":Str))=false) (hcd:(x==("__classdict__":Str))=false):PE X (.Name x pos) (tD E (qjj i)):=by
 refine PE.mono (qhz hN hv hd hcd) fun σ H Q ⟨w,Γ,S,rel,hold,q⟩=> ?_
 unfold qjj at q
 cases e:Γ[i]? with
 | none=>rw[e]at q;exact False.elim q
 | some o =>
   cases o with
   | none=>rw[e]at q;exact False.elim q
   | some d =>
     rw[e]at q
     obtain ⟨v,ev,rv⟩:=rel.at_ i d e
     exact⟨v,ev,now hold rv q⟩
theorem qd7 {v:V} {d:D} {e:Expr} (h:PE X e (tC v)) (hr:∀ w H,Rep w H d v):PE X e (tD E fun _=>M.pure d) :=
 PE.mono h fun σ H Q ⟨w,Γ,S,rel,hold,q⟩=>now hold (hr w H) q
theorem q6q {op:Operator} {k:D→D→M D} (ot:OpT X (binaryOp op) k) (ha:PE X a (tD E f)) (hb:PE X b (tD E g)):PE X (.BinOp a op b pos) (tD E fun Γ=>M.bind (f Γ) fun x=>M.bind (g Γ) fun y=>k x y):=by
 obtain ⟨r,ho,hk⟩:=ot
 refine PE.mono (q21 ho ha hb) fun σ H Q ⟨w,Γ,S,rel,hold,q⟩=> ?_
 exact qh (k:=fun x Γ=>M.bind (g Γ) fun y=>k x y) rel hold q fun dx x S1 w1 H1 l1 rel1 h1 rx q1=>qh (k:=fun y Γ=>k dx y) rel1 h1 q1 fun dy y S2 w2 H2 l2 rel2 h2 ry q2=>hk E w2 H2 S2 dx dy x y Q h2 (rx.mono l2) ry q2
theorem q3x {op:CmpOp} {k:D→D→M D} (ot:OpT X (compareOp op) k) (ha:PE X a (tD E f)) (hb:PE X b (tD E g)) (hm:behindInMarks op b=false):PE X (.Compare a [op] [b] pos) (tD E fun Γ=>M.bind (f Γ) fun x=>M.bind (g Γ) fun y=>k x y):=by
 obtain ⟨r,ho,hk⟩:=ot
 refine PE.mono (qv6 ho ha hb hm) fun σ H Q ⟨w,Γ,S,rel,hold,q⟩=> ?_
 exact qh (k:=fun x Γ=>M.bind (g Γ) fun y=>k x y) rel hold q fun dx x S1 w1 H1 l1 rel1 h1 rx q1=>qh (k:=fun y Γ=>k dx y) rel1 h1 q1 fun dy y S2 w2 H2 l2 rel2 h2 ry q2=>hk E w2 H2 S2 dx dy x y Q h2 (rx.mono l2) ry q2
theorem toB {w:Wd} {H:Hp} {S:Sto} {m:M D} {Q:Bool→Hp→Prop} (q:Wp E w H (M.bind m asB S) fun b _ _ H'=>Q b H'):Wp E w H (m S) (PV fun v H'=>∃ k,v=.bl k∧Q k H'):=by
 refine(Wp.bind q).mono fun d S1 w1 H1 l1 h1 q1 v rv=> ?_
 cases d <;> first | exact False.elim q1 | skip
 exact⟨_,rv,q1 _ _ (Le.refl _ _) h1⟩
theorem q0x {op:CmpOp} {k:D→D→M D} (ot:OpT X (compareOp op) k) (ha:PE X a (tD E f)) (hb:PE X b (tD E g)) (hm:behindInMarks op b=false):PT X (.Compare a [op] [b] pos) (tB E fun Γ=>M.bind (M.bind (f Γ) fun x=>M.bind (g Γ) fun y=>k x y) asB):=by
 obtain ⟨r,ho,hk⟩:=ot
 refine PT.mono (qv7 ho ha hb hm) fun σ H Q ⟨w,Γ,S,rel,hold,q⟩=> ?_
 exact qh (k:=fun x Γ=>M.bind (g Γ) fun y=>k x y) rel hold (toB q) fun dx x S1 w1 H1 l1 rel1 h1 rx q1=>qh (k:=fun y Γ=>k dx y) rel1 h1 q1 fun dy y S2 w2 H2 l2 rel2 h2 ry q2=>hk E w2 H2 S2 dx dy x y _ h2 (rx.mono l2) ry q2
noncomputable def qf8 (k k':D→D→M D) (f g h:Env→M D) (Γ:Env):M D:=M.bind (f Γ) fun x=>M.bind (g Γ) fun y=>M.bind (k x y) fun z=>M.bind (asB z) fun b=>if b=true then M.bind (h Γ) fun u=>k' y u else M.pure (.bl false)
theorem qm9 {op op':CmpOp} {k k':D→D→M D} {r r':R2} {σ:St} {H:Hp} {Q:VK} (hk:∀ (E:XW) w H S dx dy x y Q,qi w H S→Rep w H dx x→Rep w H dy y→Wp E w H (k dx dy S) (PV Q)→r x y H Q)
   (hk':∀ (E:XW) w H S dx dy x y Q,qi w H S→Rep w H dx x→Rep w H dy y→Wp E w H (k' dx dy S) (PV Q)→r' x y H Q) {w:Wd} {Γ:Env} {S:Sto} (rel:Rel w H σ Γ) (hold:qi w H S) (q:Wp E w H (qf8 k k' f g h' Γ S) (PV Q)) :
   qov r r' (tD E f) (tD E g) (tD E h') σ H Q:=by
 refine qh (k:=fun x Γ=>M.bind (g Γ) fun y=>M.bind (k x y) fun z=>M.bind (asB z) fun b=>if b=true then M.bind (h' Γ) fun u=>k' y u else M.pure (.bl false)) rel hold q fun dx x S1 w1 H1 l1 rel1 h1 rx q1=> ?_
 refine qh (k:=fun y Γ=>M.bind (k dx y) fun z=>M.bind (asB z) fun b=>if b=true then M.bind (h' Γ) fun u=>k' y u else M.pure (.bl false)) rel1 h1 q1 fun dy y S2 w2 H2 l2 rel2 h2 ry q2=> ?_
 refine hk E w2 H2 S2 dx dy x y _ h2 (rx.mono l2) ry ((Wp.bind q2).mono fun z S3 w3 H3 l3 h3 q3 v rv=> ?_)
 cases z <;> first | exact False.elim q3 | skip
 rename_i bb
 refine⟨bb,rv,?_⟩
 cases bb with
 | true =>
   rw[if_pos rfl]
   exact qh (k:=fun u Γ=>k' dy u) (rel2.mono l3) h3 q3 fun du u S4 w4 H4 l4 rel4 h4 ru q4=>hk' E w4 H4 S4 dy du y u Q h4 (ry.mono (l3.trans l4)) ru q4
 | false =>
   rw[if_neg Bool.false_ne_true]
   exact now h3 (d:=.bl _) rfl q3
theorem qwr {op op':CmpOp} {k k':D→D→M D} (ot:OpT X (compareOp op) k) (ot':OpT X (compareOp op') k') (ha:PE X a (tD E f)) (hb:PE X b (tD E g)) (hc:PE X c (tD E h')) (hm:lastMarks [op,op'] [b,c]=false):PE X (.Compare a [op,op'] [b,c] pos) (tD E (qf8 k k' f g h')):=by
 obtain ⟨r,ho,hk⟩:=ot
 obtain ⟨r',ho',hk'⟩:=ot'
 exact PE.mono (qsw ho ho' ha hb hc hm) fun σ H Q ⟨w,Γ,S,rel,hold,q⟩=>qm9 (op:=op) (op':=op') hk hk' rel hold q
theorem qts {op op':CmpOp} {k k':D→D→M D} (ot:OpT X (compareOp op) k) (ot':OpT X (compareOp op') k') (ha:PE X a (tD E f)) (hb:PE X b (tD E g)) (hc:PE X c (tD E h')) (hm:lastMarks [op,op'] [b,c]=false):PT X (.Compare a [op,op'] [b,c] pos) (tB E fun Γ=>M.bind (qf8 k k' f g h' Γ) asB):=by
 obtain ⟨r,ho,hk⟩:=ot
 obtain ⟨r',ho',hk'⟩:=ot'
 exact PT.mono (qsx ho ho' ha hb hc hm) fun σ H Q ⟨w,Γ,S,rel,hold,q⟩=>qm9 (op:=op) (op':=op') hk hk' rel hold (toB q)
theorem q0y:q20 X (fun x H Q=>∃ a kvs,x=.ref a∧Rd H a (.dK kvs)∧Q (!kvs.isEmpty) H):=by
 intro pins s σ H x v Q I r h
 obtain ⟨a,kvs,rfl,hd,q⟩:=h
 cases (show v=Value.ref a from r)
 exact qwj I hd fun s' I'=>⟨H,I',q⟩
theorem qws {a:Expr} {ta:TE} (ha:PE X a ta) (he:∀ whole,isTrue a X.env whole=(do let v ← whole;standAt a.pos;holding [v] (truthy v))) :
   PT X a (fun σ H Q=>ta σ H fun x H'=>(∃ k,q29 X.K x H' k∧Q k H')∨∃ a kvs,x=.ref a∧Rd H' a (.dK kvs)∧Q (!kvs.isEmpty) H'):=by
 intro pins s σ H Q I h
 rw[he]
 refine wpAny_bind (thn (ha pins s σ H _ I h) fun v s1 ⟨x,H1,I1,r1,q1⟩=>wpAny_bind (wpAny_standAt (wpAny_holding ?_)))
 rcases q1 with q1 | q1
 · exact qzx pins s1 σ H1 x v Q I1 r1 q1
 · exact q0y pins s1 σ H1 x v Q I1 r1 q1
theorem q3y (ha:PE X a (tD E f)) (he:∀ whole,isTrue a X.env whole=(do let v ← whole;standAt a.pos;holding [v] (truthy v))):PT X a (tB E fun Γ=>M.bind (f Γ) qrl):=by
 refine PT.mono (qws ha he) fun σ H Q ⟨w,Γ,S,rel,hold,q⟩=> ?_
 refine qh (k:=fun x Γ=>qrl x) rel hold q fun dx x S1 w1 H1 l1 rel1 h1 rx q1=> ?_
 unfold qrl at q1
 cases e:look dx S1 <;> rw[e]at q1 <;> first | exact False.elim q1 | skip
 case non=>exact .inl ⟨false,by rw[qfe rx e];rfl,q1 _ _ (Le.refl _ _) h1⟩
 case bl b=>exact .inl ⟨b,by rw[qqj rx e];rfl,q1 _ _ (Le.refl _ _) h1⟩
 case int i=>exact .inl ⟨i != 0,by rw[qr rx e];rfl,q1 _ _ (Le.refl _ _) h1⟩
 case str y =>
   obtain ⟨hz,q1⟩:=Wp.iteF q1
   exact .inl ⟨_,by rw[qa1 rx e];exact⟨of_decide_eq_true hz,rfl⟩,q1 _ _ (Le.refl _ _) h1⟩
 case lst xs =>
   obtain ⟨p,vs,rfl,hp,hvs⟩:=qt h1 rx e
   refine .inl ⟨!vs.isEmpty,.inl ⟨vs,SqL.of hp,rfl⟩,?_⟩
   have:vs.isEmpty=xs.isEmpty:=qds hvs.length.symm
   rw[this]
   exact q1 _ _ (Le.refl _ _) h1
 case tup xs =>
   obtain ⟨p,vs,rfl,hp,hvs⟩:=qag h1 rx e
   refine .inl ⟨!vs.isEmpty,.inr (.inl ⟨vs,SqT.of hp,rfl⟩),?_⟩
   have:vs.isEmpty=xs.isEmpty:=qds hvs.length.symm
   rw[this]
   exact q1 _ _ (Le.refl _ _) h1
 case dct ks xs =>
   obtain ⟨p,vs,rfl,hp,hl,hvs⟩:=qdr h1 rx e
   refine .inr ⟨p,_,rfl,hp,?_⟩
   have:(ks.zip vs).isEmpty=ks.isEmpty:=qds (by rw[List.length_zip,← hvs.length,← hl,Nat.min_self])
   rw[this]
   exact q1 _ _ (Le.refl _ _) h1
theorem qd8 {α:Type} {f:Env→M Bool} {k:Bool→Env→M α} {σ:St} {H:Hp} {w:Wd} {Γ:Env} {S:Sto} {P:α→Sto→Wd→Hp→Prop} {Q:Bool→Hp→Prop} (r:Rel w H σ Γ) (h:qi w H S)
   (q:Wp E w H (M.bind (f Γ) (fun d=>k d Γ) S) P) (hk:∀ b S1 w1 H1,Le w H w1 H1→Rel w1 H1 σ Γ→qi w1 H1 S1→Wp E w1 H1 (k b Γ S1) P→Q b H1):tB E f σ H Q :=
 ⟨w,Γ,S,r,h,(Wp.bind q).mono fun b S1 w1 H1 l h1 q1=>hk b S1 w1 H1 l (r.mono l) h1 q1⟩
noncomputable def q0z (f g:Env→M Bool) (Γ:Env):M Bool:=M.bind (f Γ) fun b=>if b=true then g Γ else M.pure false
noncomputable def orB (f g:Env→M Bool) (Γ:Env):M Bool:=M.bind (f Γ) fun b=>if b=true then M.pure true else g Γ
noncomputable def q00 (f:Env→M Bool) (Γ:Env):M Bool:=M.bind (f Γ) fun b=>M.pure (!b)
theorem PW.mono {e:Expr} {t t':TT} (h:PW X e t) (k:∀ σ H Q,t' σ H Q→t σ H Q):PW X e t':=fun wh pins s σ H Q I q=>h wh pins s σ H Q I (k σ H Q q)
variable {fa fb:Env→M Bool} {rest:List Expr}
theorem qtt (ha:PT X a (tB E fa)):PW X (.BoolOp .And [a] pos) (tB E fa):=qvy ha
theorem qyw (ha:PT X a (tB E fa)):PW X (.BoolOp .Or [a] pos) (tB E fa):=qzc ha
theorem qtu (ha:PT X a (tB E fa)) (hb:PW X (.BoolOp .And (b::rest) pos) (tB E fb)):PW X (.BoolOp .And (a::b::rest) pos) (tB E (q0z fa fb)):=by
 refine PW.mono (qzd ha hb) fun σ H Q ⟨w,Γ,S,rel,hold,q⟩=> ?_
 refine qd8 (k:=fun b Γ=>if b=true then fb Γ else M.pure false) rel hold q fun bb S1 w1 H1 l1 rel1 h1 q1=> ?_
 cases bb with
 | true=>exact⟨w1,Γ,S1,rel1,h1,q1⟩
 | false=>exact q1 _ _ (Le.refl _ _) h1
theorem qyx (ha:PT X a (tB E fa)) (hb:PW X (.BoolOp .Or (b::rest) pos) (tB E fb)):PW X (.BoolOp .Or (a::b::rest) pos) (tB E (orB fa fb)):=by
 refine PW.mono (q2q ha hb) fun σ H Q ⟨w,Γ,S,rel,hold,q⟩=> ?_
 refine qd8 (k:=fun b Γ=>if b=true then M.pure true else fb Γ) rel hold q fun bb S1 w1 H1 l1 rel1 h1 q1=> ?_
 cases bb with
 | false=>exact⟨w1,Γ,S1,rel1,h1,q1⟩
 | true=>exact q1 _ _ (Le.refl _ _) h1
theorem q01 (ha:PT X a (tB E fa)):PT X (.UnaryOp .Not a pos) (tB E (q00 fa)):=by
 refine PT.mono (qze ha) fun σ H Q ⟨w,Γ,S,rel,hold,q⟩=> ?_
 exact qd8 (k:=fun b Γ=>M.pure (!b)) rel hold q fun bb S1 w1 H1 l1 rel1 h1 q1=>q1 _ _ (Le.refl _ _) h1
noncomputable def q02 (f g:Env→M D) (Γ:Env):M D:=M.bind (f Γ) fun x=>M.bind (asB x) fun b=>if b=true then g Γ else M.pure (.bl false)
noncomputable def orV (f g:Env→M D) (Γ:Env):M D:=M.bind (f Γ) fun x=>M.bind (asB x) fun b=>if b=true then M.pure (.bl true)else g Γ
noncomputable def q3z (f:Env→M D) (Γ:Env):M D:=M.bind (f Γ) fun x=>M.bind (asB x) fun b=>M.pure (.bl (!b))
theorem q30 {op:BoolOp} (ha:PE X a (tD E f)):PE X (.BoolOp op [a] pos) (tD E f):=qzf ha
theorem q31 (ha:PE X a (tD E f)) (hb:PE X (.BoolOp .And (b::rest) pos) (tD E g)):PE X (.BoolOp .And (a::b::rest) pos) (tD E (q02 f g)):=by
 refine PE.mono (qzg ha hb) fun σ H Q ⟨w,Γ,S,rel,hold,q⟩=> ?_
 refine qh (k:=fun x Γ=>M.bind (asB x) fun b=>if b=true then g Γ else M.pure (.bl false)) rel hold q fun dx x S1 w1 H1 l1 rel1 h1 rx q1=> ?_
 cases dx <;> first | exact False.elim q1 | skip
 rename_i bb
 refine⟨bb,rx,?_⟩
 cases bb with
 | true=>exact⟨w1,Γ,S1,rel1,h1,q1⟩
 | false=>exact now h1 (d:=.bl _) rfl q1
theorem q6r (ha:PE X a (tD E f)) (hb:PE X (.BoolOp .Or (b::rest) pos) (tD E g)):PE X (.BoolOp .Or (a::b::rest) pos) (tD E (orV f g)):=by
 refine PE.mono (q2t ha hb) fun σ H Q ⟨w,Γ,S,rel,hold,q⟩=> ?_
 refine qh (k:=fun x Γ=>M.bind (asB x) fun b=>if b=true then M.pure (D.bl true)else g Γ) rel hold q fun dx x S1 w1 H1 l1 rel1 h1 rx q1=> ?_
 cases dx <;> first | exact False.elim q1 | skip
 rename_i bb
 refine⟨bb,rx,?_⟩
 cases bb with
 | false=>exact⟨w1,Γ,S1,rel1,h1,q1⟩
 | true=>exact now h1 (d:=.bl _) rfl q1
theorem q32 (ha:PE X a (tD E f)):PE X (.UnaryOp .Not a pos) (tD E (q3z f)):=by
 refine PE.mono (qzh ha) fun σ H Q ⟨w,Γ,S,rel,hold,q⟩=> ?_
 refine qh (k:=fun x Γ=>M.bind (asB x) fun b=>M.pure (D.bl (!b))) rel hold q fun dx x S1 w1 H1 l1 rel1 h1 rx q1=> ?_
 cases dx <;> first | exact False.elim q1 | skip
 exact⟨_,rx,now h1 (d:=.bl _) rfl q1⟩
noncomputable def ifE (c:Env→M Bool) (f g:Env→M D) (Γ:Env):M D:=M.bind (c Γ) fun b=>if b=true then f Γ else g Γ
theorem q33 (hc:PT X c (tB E fa)) (ha:PE X a (tD E f)) (hb:PE X b (tD E g)):PE X (.IfExp c a b pos) (tD E (ifE fa f g)):=by
 refine PE.mono (qsq hc ha hb) fun σ H Q ⟨w,Γ,S,rel,hold,q⟩=> ?_
 refine qd8 (k:=fun b Γ=>if b=true then f Γ else g Γ) rel hold q fun bb S1 w1 H1 l1 rel1 h1 q1=> ?_
 cases bb with
 | true=>exact⟨w1,Γ,S1,rel1,h1,q1⟩
 | false=>exact⟨w1,Γ,S1,rel1,h1,q1⟩
variable {es:List Expr} {e:Expr} {fs:Env→M (List D)}
noncomputable def qtv (f:Env→M D) (r:Env→M (List D)) (Γ:Env):M (List D):=M.bind (f Γ) fun x=>M.bind (r Γ) fun xs=>M.pure (x::xs)
theorem q34:PA X [] (tL E fun _=>M.pure []):=PA.mono qc6 fun σ H Q ⟨w,Γ,S,rel,hold,q⟩=>q _ _ (Le.refl _ _) hold [] rfl
theorem q03 (ha:PE X e (tD E f)) (hr:PA X es (tL E fs)) (hs:starEach (e::es) X.env=(false,eval e X.env)::starEach es X.env):PA X (e::es) (tL E (qtv f fs)):=by
 refine PA.mono (qah ha hr hs) fun σ H Q ⟨w,Γ,S,rel,hold,q⟩=> ?_
 refine qh (k:=fun x Γ=>M.bind (fs Γ) fun xs=>M.pure (x::xs)) rel hold q fun dx x S1 w1 H1 l1 rel1 h1 rx q1=> ?_
 exact⟨w1,Γ,S1,rel1,h1,(Wp.bind q1).mono fun ds S2 w2 H2 l2 h2 q2 vs rvs=>q2 _ _ (Le.refl _ _) h2 _ (qf.cons (rx.mono l2) rvs)⟩
theorem qb7 {α:Type} {f:Env→M (List D)} {k:List D→Env→M α} {σ:St} {H:Hp} {w:Wd} {Γ:Env} {S:Sto} {P:α→Sto→Wd→Hp→Prop} {Q:List V→Hp→Prop} (r:Rel w H σ Γ) (h:qi w H S)
   (q:Wp E w H (M.bind (f Γ) (fun d=>k d Γ) S) P) (hk:∀ ds vs S1 w1 H1,Le w H w1 H1→Rel w1 H1 σ Γ→qi w1 H1 S1→qf w1 H1 ds vs→Wp E w1 H1 (k ds Γ S1) P→Q vs H1):tL E f σ H Q :=
 ⟨w,Γ,S,r,h,(Wp.bind q).mono fun d S1 w1 H1 l h1 q1 v rv=>hk d v S1 w1 H1 l (r.mono l) h1 rv q1⟩
noncomputable def mkT (ds:List D):M D:=if sizeOk ds.length then M.pure (.tup ds)else M.fail
noncomputable def mkL (new:Bool) (ds:List D):M D:=if sizeOk ds.length then alloc new (.lst ds)else M.fail
theorem q35 {x1:Nat} (h:PA X es (tL E fs)):PE X (.Tuple es x1 pos) (tD E fun Γ=>M.bind (fs Γ) mkT):=by
 refine PE.mono (qz1 h) fun σ H Q ⟨w,Γ,S,rel,hold,q⟩=> ?_
 refine qb7 (k:=fun ds _=>mkT ds) rel hold q fun ds vs S1 w1 H1 l1 rel1 h1 rv q1=> ?_
 obtain ⟨hz,q1⟩:=Wp.iteF q1
 exact⟨by rw[← rv.length];exact of_decide_eq_true hz,fun p hp=>qhi h1 rv q1 hp⟩
theorem q36 {new:Bool} (h:PA X es (tL E fs)):PE X (.List es pos) (tD E fun Γ=>M.bind (fs Γ) (mkL new)):=by
 refine PE.mono (qo0 h) fun σ H Q ⟨w,Γ,S,rel,hold,q⟩=> ?_
 refine qb7 (k:=fun ds _=>mkL new ds) rel hold q fun ds vs S1 w1 H1 l1 rel1 h1 rv q1=> ?_
 obtain ⟨hz,q1⟩:=Wp.iteF q1
 exact⟨by rw[← rv.length];exact of_decide_eq_true hz,fun p hp=>qbn h1 rv q1 hp⟩
end
end T3
namespace L2
open PySem PySem.Spec PyProof.Rows
open PySem
section
variable {X:Cx}
noncomputable def rJoin (K:PySem.W.Frag):V→List V→Hp→VK→Prop:=fun x vs H Q=>∃ (z:Str) (l:Addr) (ys:List Str),x=.str z∧vs=[.ref l]∧SqL K H l (ys.map V.str)∧(ys.map (·.length)).sum+ys.length * z.length≤16777216∧Q (.str (PySem.Txt.join z ys)) H
theorem qql:∀ {ys:List Str} {us:List Value},Vals (ys.map V.str) us→StrsAre us ys
 | [],_,.nil=>.nil
 | y::ys,_,.cons r t=>by
   obtain ⟨k,rfl⟩:=r
   exact .cons y k (qql t)
theorem qwt:MtM X "str.join" (rJoin X.K):=by
 intro pins s σ H x vs v us Q I rx rv h
 obtain ⟨z,l,ys,rfl,rfl,hl,hz,q⟩:=h
 obtain ⟨t,rfl⟩:=rx
 obtain ⟨u,rfl,ru⟩:=rv.one
 cases ru
 obtain ⟨its,r,pl,_⟩:=I.list hl
 exact join_list pl.isList (by simpa using qql r) hz fun t' k=>⟨.str _,H,I.tok k,⟨t',rfl⟩,q⟩
end
section
variable {X:Cx}
theorem qli:qbj X (.type "str") (fun xs H Q=>∃ x,xs=[.str x]∧Q (.str x) H):=by
 intro pins s σ H xs us Q I r h
 obtain ⟨x,rfl,q⟩:=h
 obtain ⟨u,rfl,t,rfl⟩:=vals1 r
 exact PySem.P.str_of_str ⟨.str x,H,I,⟨_,rfl⟩,q⟩
theorem qjk:qbj X (.type "int") (fun xs H Q=>∃ x n,xs=[.str x]∧PySem.intText? x=some n∧x.length≤640∧Q (.int n) H):=by
 intro pins s σ H xs us Q I r h
 obtain ⟨x,n,rfl,hn,hl,q⟩:=h
 obtain ⟨u,rfl,t,rfl⟩:=vals1 r
 exact PySem.W.KIN.call_text hn hl ⟨.int n,H,I.tok _,⟨_,rfl⟩,q⟩
theorem qie:∀ (l:List (Str × Tok)),Vals ((l.map (·.1)).map V.str) (strValues l)
 | []=>.nil
 | p::l=>.cons ⟨p.2,rfl⟩ (qie l)
noncomputable def q04:V→List V→Hp→VK→Prop:=fun x vs H Q=>∃ z y,x=.str z∧vs=[.str y]∧y.length ≠ 0∧z.length+2≤sizeLine∧∀ p,H p=none→Q (.ref p) (upd H p (.lst ((PySem.Txt.split z y).map V.str)))
theorem qtw:MtM X "str.split" q04:=by
 intro pins s σ H x vs v us Q I rx rv h
 obtain ⟨z,y,rfl,rfl,hy,hz,q⟩:=h
 obtain ⟨t,rfl⟩:=rx
 obtain ⟨u',rfl,ru⟩:=rv.one
 obtain ⟨u,rfl⟩:=ru
 have hy:(y.length==0)=false:=by simpa using hy
 have fin:∀ (l:List (Str × Tok)) (k:Nat),l.map (·.1)=Txt.split z y→l.length≤sizeLine→EP X pins σ Q (.ref s.heap.objs.size) { s with heap:=s.heap.push { cls:=.type "list",data:=.seq (strValues l).toArray },toks:=k }:=fun l k e hl=>by
   have hf:H s.heap.objs.size=none:=I.hok.fresh (Nat.le_refl _)
   refine⟨.ref s.heap.objs.size,_,I.laid (o:=.lst ((Txt.split z y).map V.str)) (t':=k) (fun b u e=>Heap.get?_push_of_some _ e) (Nat.le_refl _) ?_,rfl,q _ hf⟩
   refine⟨by rw[← e];simpa using hl,strValues l,0,by rw[← e];exact qie l,Heap.get?_push_size _ rfl⟩
 have hn:(Builtin.Str.partsBetween z (Builtin.Str.occurrences z y 0 z.length (z.length+1)) y.length).length≤sizeLine:=by
   have e1:=StrLaws.occ_length_le z y 0 z.length (z.length+1)
   rw[length_partsBetween];omega
 cases h1:(decide (z.length < y.length) || decide (Builtin.Str.strKind z < Builtin.Str.strKind y))
 · cases hf:(Builtin.Str.occurrences z y 0 z.length (z.length+1)).isEmpty
   · refine call_meets F.slot_str_split (typeIs_str _ _ _) F.entry_str_split (F.args_str_split_2 _ _) (meets_str_split_sep z y t u h1 hy hf (by omega) hn) ?_
     show wants _ _ _ { s with toks:=_,heap:=s.heap.push { cls:=.type "list",data:=.seq (strsFrom s.toks (Builtin.Str.partsBetween z (Builtin.Str.occurrences z y 0 z.length (z.length+1)) y.length)).toArray } }
     rw[strsFrom_eq]
     exact fin (numbered s.toks _) _ ((numbered_texts _ _).trans ((if_neg (ne_true_of_eq_false h1)).trans (if_neg (ne_true_of_eq_false hf))).symm) (by have:=congrArg List.length (numbered_texts s.toks (Builtin.Str.partsBetween z (Builtin.Str.occurrences z y 0 z.length (z.length+1)) y.length));simp at this;omega)
   · exact call_meets F.slot_str_split (typeIs_str _ _ _) F.entry_str_split (F.args_str_split_2 _ _) (meets_str_split_not_found z y t u h1 hy hf)
       (fin [(z,t)] s.toks ((if_neg (ne_true_of_eq_false h1)).trans (if_pos hf)).symm (by show 1≤sizeLine;decide))
 · exact call_meets F.slot_str_split (typeIs_str _ _ _) F.entry_str_split (F.args_str_split_2 _ _) (meets_str_split_cannot_occur z y t u h1)
     (fin [(z,t)] s.toks (if_pos h1).symm (by show 1≤sizeLine;decide))
noncomputable def Its (x:Str):It:=⟨fun i _=>i < x.cps.size,fun i H v H'=>H'=H∧∃ c,x.cps[i]? =some c∧v=.str ⟨#[c]⟩,fun i _=>x.cps.size≤i⟩
theorem qrm {P:Program} {w:World} {K:PySem.W.Frag} {tg:Expr} (it:Addr) (x:Str) (t:Tok):Turn P w K tg (Its x) [it] it (fun i h=>h.IsStrIter it "str_ascii_iterator" x t i) where
 mem:=by simp
 obj:=fun i h st b hb=>by
   have e:b=it:=by simpa using hb
   subst e
   obtain ⟨o,e,c,d⟩:=st
   exact⟨o,e,fun v z=>by rw[d]at z;cases z⟩
 keep:=fun i h h' st k=>by
   obtain ⟨o,e,r⟩:=st
   exact⟨o,k it (by simp) o e,r⟩
 item:=by
   intro X hP hw hK hc i pins s σ H E I hf st hg
   subst hP hw hK
   obtain ⟨f0,f1,f2,f3,f4,f5⟩:=hf it (by simp)
   have hg:i < x.cps.size:=hg
   refine wpAny_pyNext_ascii_item st (c:=x.cps[i]) (Array.getElem?_eq_getElem hg) fun h' st' sb=> ?_
   have I1:Inv X pins σ H { s with heap:=h',toks:=s.toks+1 }:=I.turned (fun b o hb e=>(sb.2 b hb).trans e) f0 f1 f3 f4 f5
   obtain ⟨o,e,c,d⟩:=id st'
   exact⟨_,rfl,qp6 (s:={ s with heap:=h',toks:=s.toks+1 }) e c d (by decide) ⟨.str ⟨#[x.cps[i]]⟩,H,I1,⟨_,rfl⟩,⟨rfl,_,Array.getElem?_eq_getElem hg,rfl⟩,st',fun b hb=>(hf b hb).1⟩⟩
 done:=by
   intro X hP hw hK hc i pins s σ H E I hf st hg
   subst hP hw hK
   obtain ⟨f0,f1,f2,f3,f4,f5⟩:=hf it (by simp)
   have hg:x.cps.size≤i:=hg
   exact wpAny_pyNext_ascii_end (I.ok.hd hc) st (Array.getElem?_eq_none hg) fun h' eb=>⟨rfl,I.turned (t':=s.toks) (fun b o hb e=>eb b o hb e) f0 f1 f3 f4 f5⟩
 self:=fun _ _ _ _ _ st h=>wpAny_pyIter_striter_ascii st h
noncomputable def q37 (tl:TE):TI:=fun σ H R=>tl σ H fun v H1=>∃ x,v=.str x∧x.cps.all (· < 128)=true∧R (Its x) H1
theorem qwu {tg l:Expr} {tl:TE} (hl:PE X l tl):PI X tg l (q37 tl):=by
 intro pins s σ H R I h
 refine thn (hl pins s σ H _ I h) fun v s1 ⟨x,H1,I1,r1,q1⟩=> ?_
 obtain ⟨x',rfl,ha,q⟩:=q1
 obtain ⟨t,rfl⟩:=r1
 refine wpAny_pyIter_ascii ha ?_
 refine⟨s1.heap.objs.size,[s1.heap.objs.size],_,_,H1,rfl,I1.kept (t':=s1.toks) fun b o e=>Heap.get?_push_of_some _ e,qrm _ x' t,⟨_,Heap.get?_push_size _ rfl,rfl,rfl⟩,fun b hb=> ?_,q⟩
 have e:b=s1.heap.objs.size:=by simpa using hb
 subst e
 exact I1.fpOk (Nat.le_refl _) (I1.hok.fresh (Nat.le_refl _))
noncomputable def qpa:Key→Tok→Value
 | .inl i,t=>.int i t
 | .inr x,t=>.str x t
noncomputable def tK (k:Key):TE:=fun σ H Q=>Q (kV k) H
theorem qtx {x:Str} {k:Key} {t:Tok} {p:Pos} (hg:Gl X x) (hm:X.mg x=some (qpa k t)) (hdb:(x==("__debug__":Str))=false):PE X (.Name x p) (tK k):=by
 intro pins s σ H Q I h
 refine qbs I hg hm ?_ hdb
 cases k with
 | inl i=>exact⟨.int i,H,I,⟨t,rfl⟩,h⟩
 | inr y=>exact⟨.str y,H,I,⟨t,rfl⟩,h⟩
end
end L2
namespace T3
open PySem PySem.Spec PyProof.Rows L2
noncomputable def qna:List Key→List D→Key→Option D
 | k::ks,d::ds,j=>if k=j then some d else qna ks ds j
 | _,_,_=>none
noncomputable def ixM (x y:D):M D:=match x,y with
 | .lst xs,.int i=>match atI xs i with
   | some d=>M.pure d
   | none=>M.fail
 | .tup xs,.int i=>match atI xs i with
   | some d=>M.pure d
   | none=>M.fail
 | .str z,.int i=>match atI z.cps.toList i with
   | some c=>if sizeOk z.length then M.pure (.str ⟨#[c]⟩)else M.fail
   | none=>M.fail
 | .dct ks ds,k=>match keyOf k with
   | some j=>match qna ks ds j with
     | some d=>M.pure d
     | none=>M.fail
   | none=>M.fail
 | _,_=>M.fail
theorem qlj {w:Wd} {H:Hp} {ds:List D} {vs:List V} {i:Int} {d:D} (r:qf w H ds vs) (e:atI ds i=some d):∃ v,atI vs i=some v∧Rep w H d v:=by
 unfold atI at e ⊢
 rw[← r.length]
 cases q:ixN ds.length i with
 | none=>rw[q]at e;simp at e
 | some j =>
   rw[q]at e
   have e:ds[j]? =some d:=e
   obtain ⟨v,h1,h2⟩:=r.get e
   exact⟨v,h1,h2⟩
theorem qif {w:Wd} {H:Hp} {j:Key} {d:D}:∀ {ks:List Key} {ds:List D} {vs:List V},qf w H ds vs→qna ks ds j=some d→∃ v,qej (ks.zip vs) j=some v∧Rep w H d v
 | [],_,_,_,e=>by simp [qna]at e
 | _::_,[],_,_,e=>by simp [qna]at e
 | k ::ks,x::ds,_,⟨v,r,e0,h,t⟩,e=>by
   subst e0
   rw[qna]at e
   rw[List.zip_cons_cons]
   by_cases hk:k=j
   · rw[if_pos hk]at e
     cases e
     exact⟨v,qcw hk,h⟩
   · rw[if_neg hk]at e
     obtain ⟨u,h1,h2⟩:=qif t e
     exact⟨u,by rw[qcx hk];exact h1,h2⟩
section
variable {X:Cx} {E:XW} {a b c:Expr} {f g h':Env→M D} {pos:Pos}
theorem q05 (hu:X.A.units+1 < cLine):IxR X (fun x y H Q=>∃ a v,x=.ref a∧qf5 H a y (some v)∧Q v H):=by
 intro value slice pins s σ H x y v u Q I rx ry h hs
 obtain ⟨p,z,rfl,g,q⟩:=h
 cases (show v=Value.ref p from rx)
 unfold subscriptTail
 have hT:=qm2 I g
 refine wpAny_bind ?_
 rw[getitemInPython_of_ne hT.not_modules]
 refine wpAny_bind (wpAny_specialOf hT PySem.F.slot_dict_getitem.lookup ?_)
 have fin:wpAny (model X.prog X.w) X.A (subscripted slice false (.ref p) u) (fun r s₃=>wpAny (model X.prog X.w) X.A (letTemporaryGo value (.ref p) r >>= fun _=>pure r) (EP X pins σ Q) X.xe s₃) X.xe s:=by
   rw[hs]
   exact wpAny_operating (qkf hu I g ry fun w' s3 I3 rw'=>wpAny_bind (wpAny_letTemporaryGo (wpAny_pure ⟨z,H,I3,rw',q⟩)))
 exact wpAny_pure (wpAny_bind fin)
noncomputable def IxT (X:Cx) (h:D→D→M D):Prop:=∃ r:R2,IxR X r∧∀ (E:XW) w H S dx dy x y Q,qi w H S→Rep w H dx x→Rep w H dy y→Wp E w H (h dx dy S) (PV Q)→r x y H Q
theorem q38 (hu:X.A.units+1 < cLine):IxT X (fun x y S=>ixM (look x S) y S):=by
 refine⟨_,qwb.or (qs1.or (qz5.or (q05 hu))),fun E w H S dx dy x y Q h rx ry q=> ?_⟩
 dsimp only at q
 unfold ixM at q
 cases e1:look dx S <;> rw[e1]at q <;> first | exact False.elim q | skip
 case lst xs =>
   cases dy <;> first | exact False.elim q | skip
   rename_i i
   dsimp only at q
   cases e:atI xs i with
   | none=>rw[e]at q;exact False.elim q
   | some d =>
     rw[e]at q
     obtain ⟨p,vs,rfl,hp,hvs⟩:=qt h rx e1
     obtain ⟨v,e',rv⟩:=qlj hvs e
     exact .inl ⟨p,vs,i,v,rfl,ry,SqL.of hp,e',now h rv q⟩
 case tup xs =>
   cases dy <;> first | exact False.elim q | skip
   rename_i i
   dsimp only at q
   cases e:atI xs i with
   | none=>rw[e]at q;exact False.elim q
   | some d =>
     rw[e]at q
     obtain ⟨p,vs,rfl,hp,hvs⟩:=qag h rx e1
     obtain ⟨v,e',rv⟩:=qlj hvs e
     exact .inr (.inl ⟨p,vs,i,v,rfl,ry,SqT.of hp,e',now h rv q⟩)
 case str z =>
   cases dy <;> first | exact False.elim q | skip
   rename_i i
   dsimp only at q
   cases e:atI z.cps.toList i with
   | none=>rw[e]at q;exact False.elim q
   | some c =>
     rw[e]at q
     obtain ⟨hz,q⟩:=Wp.iteF q
     exact .inr (.inr (.inl ⟨z,i,c,qa1 rx e1,ry,of_decide_eq_true hz,e,now h (d:=.str _) rfl q⟩))
 case dct ks ds =>
   dsimp only at q
   cases e:keyOf dy with
   | none=>rw[e]at q;exact False.elim q
   | some j =>
     rw[e]at q
     dsimp only at q
     cases e2:qna ks ds j with
     | none=>rw[e2]at q;exact False.elim q
     | some d =>
       rw[e2]at q
       obtain ⟨p,vs,rfl,hp,hl,hvs⟩:=qdr h rx e1
       obtain ⟨v,e',rv⟩:=qif hvs e2
       refine .inr (.inr (.inr ⟨p,v,rfl,?_,now h rv q⟩))
       have:y=kV j:=by cases dy <;> first | (cases e;exact ry) | (cases e;done)
       rw[this,← e']
       exact qlh hp
theorem q6s {k:D→D→M D} (ot:IxT X k) (ha:PE X a (tD E f)) (hb:PE X b (tD E g)) (hs:qk6 b):PE X (.Subscript a b pos) (tD E fun Γ=>M.bind (f Γ) fun x=>M.bind (g Γ) fun y=>k x y):=by
 obtain ⟨r,ho,hk⟩:=ot
 refine PE.mono (q3c ho ha hb hs) fun σ H Q ⟨w,Γ,S,rel,hold,q⟩=> ?_
 exact qh (k:=fun x Γ=>M.bind (g Γ) fun y=>k x y) rel hold q fun dx x S1 w1 H1 l1 rel1 h1 rx q1=>qh (k:=fun y Γ=>k dx y) rel1 h1 q1 fun dy y S2 w2 H2 l2 rel2 h2 ry q2=>hk E w2 H2 S2 dx dy x y Q h2 (rx.mono l2) ry q2
noncomputable def tO (E:XW) (f:Env→M (Option Int)):TO:=fun σ H Q=>∃ w Γ S,Rel w H σ Γ∧qi w H S∧Wp E w H (f Γ S) fun o _ _ H'=>Q o H'
theorem PO.mono {e:Option Expr} {t t':TO} (h:PO X e t) (k:∀ σ H Q,t' σ H Q→t σ H Q):PO X e t':=fun pins s σ H Q I q=>h pins s σ H Q I (k σ H Q q)
noncomputable def asI:D→M (Option Int)
 | .int i=>M.pure (some i)
 | _=>M.fail
theorem qwv:PO X none (tO E fun _=>M.pure none):=PO.mono qqd fun σ H Q ⟨w,Γ,S,rel,hold,q⟩=>q _ _ (Le.refl _ _) hold
theorem qww (ha:PE X a (tD E f)):PO X (some a) (tO E fun Γ=>M.bind (f Γ) asI):=by
 refine PO.mono (qqe ha) fun σ H Q ⟨w,Γ,S,rel,hold,q⟩=> ?_
 refine qh (k:=fun x _=>asI x) rel hold q fun dx x S1 w1 H1 l1 rel1 h1 rx q1=> ?_
 cases dx <;> first | exact False.elim q1 | skip
 exact⟨_,rx,q1 _ _ (Le.refl _ _) h1⟩
noncomputable def cutD (xs:List D) (lo hi:Option Int):List D:=(xs.drop (HT.sIx xs.length 0 lo)).take (HT.sIx xs.length xs.length hi - HT.sIx xs.length 0 lo)
theorem qqm {w:Wd} {H:Hp} {xs:List D} {vs:List V} (r:qf w H xs vs) (lo hi:Option Int):qf w H (cutD xs lo hi) (qg7 vs lo hi):=by
 unfold cutD qg7
 rw[r.length]
 exact(r.drop _).take _
noncomputable def slM (new:Bool) (x:D) (lo hi:Option Int):M D:=match x with
 | .lst xs=>alloc new (.lst (cutD xs lo hi))
 | .tup xs=>if decide (¬ (HT.sIx xs.length 0 lo=0∧HT.sIx xs.length xs.length hi=xs.length))then M.pure (.tup (cutD xs lo hi))else M.fail
 | .str z=>if sizeOk z.length then M.pure (.str (Txt.slice z lo hi))else M.fail
 | _=>M.fail
noncomputable def slD (new:Bool) (f:Env→M D) (lo hi:Env→M (Option Int)) (Γ:Env):M D:=M.bind (f Γ) fun x=>M.bind (lo Γ) fun l=>M.bind (hi Γ) fun h S=>slM new (look x S) l h S
theorem qqn {α:Type} {f:Env→M (Option Int)} {k:Option Int→Env→M α} {σ:St} {H:Hp} {w:Wd} {Γ:Env} {S:Sto} {P:α→Sto→Wd→Hp→Prop} {Q:Option Int→Hp→Prop} (r:Rel w H σ Γ) (h:qi w H S)
   (q:Wp E w H (M.bind (f Γ) (fun d=>k d Γ) S) P) (hk:∀ b S1 w1 H1,Le w H w1 H1→Rel w1 H1 σ Γ→qi w1 H1 S1→Wp E w1 H1 (k b Γ S1) P→Q b H1):tO E f σ H Q :=
 ⟨w,Γ,S,r,h,(Wp.bind q).mono fun b S1 w1 H1 l h1 q1=>hk b S1 w1 H1 l (r.mono l) h1 q1⟩
theorem q6t {new:Bool} {lo hi:Option Expr} {fl fh:Env→M (Option Int)} {p2:Pos} (ha:PE X a (tD E f)) (hl:PO X lo (tO E fl)) (hh:PO X hi (tO E fh)):PE X (.Subscript a (.Slice lo hi none p2) pos) (tD E (slD new f fl fh)):=by
 refine PE.mono (qmx (qqg.or (qz3.or q0j)) ha hl hh) fun σ H Q ⟨w,Γ,S,rel,hold,q⟩=> ?_
 refine qh (k:=fun x Γ=>M.bind (fl Γ) fun l=>M.bind (fh Γ) fun h S=>slM new (look x S) l h S) rel hold q fun dx x S1 w1 H1 l1 rel1 h1 rx q1=> ?_
 refine qqn (k:=fun l Γ=>M.bind (fh Γ) fun h S=>slM new (look dx S) l h S) rel1 h1 q1 fun l S2 w2 H2 l2 rel2 h2 q2=> ?_
 refine qqn (k:=fun h Γ S=>slM new (look dx S) l h S) rel2 h2 q2 fun h S3 w3 H3 l3 rel3 h3 q3=> ?_
 have rx:=rx.mono (l2.trans l3)
 unfold slM at q3
 cases e1:look dx S3 <;> rw[e1]at q3 <;> first | exact False.elim q3 | skip
 case lst xs =>
   obtain ⟨p,vs,rfl,hp,hvs⟩:=qt h3 rx e1
   exact .inl ⟨p,vs,rfl,SqL.of hp,fun p' hp'=>qbn h3 (qqm hvs _ _) q3 hp'⟩
 case tup xs =>
   obtain ⟨p,vs,rfl,hp,hvs⟩:=qag h3 rx e1
   obtain ⟨hz,q3⟩:=Wp.iteF q3
   exact .inr (.inl ⟨p,vs,rfl,SqT.of hp,by rw[← hvs.length];exact of_decide_eq_true hz,fun p' hp'=>qhi h3 (qqm hvs _ _) q3 hp'⟩)
 case str z =>
   obtain ⟨hz,q3⟩:=Wp.iteF q3
   exact .inr (.inr ⟨z,qa1 rx e1,of_decide_eq_true hz,now h3 (d:=.str _) rfl q3⟩)
noncomputable def qep (X:Cx) (F:Value) (h:List D→M D):Prop:=∃ r:List V→Hp→VK→Prop,qbj X F r∧∀ (E:XW) w H S ds vs Q,qi w H S→qf w H ds vs→Wp E w H (h ds S) (PV Q)→r vs H Q
variable {x:Str} {p:Pos} {e:Expr} {es:List Expr} {fs:Env→M (List D)} {k:List D→M D}
theorem qhm {id:String} (ot:qep X (.builtin id) k) (hg:Gl X x) (hm:X.mg x=none) (hv:bootBuiltins x=some (.builtin id)) (ha:PA X (e::es) (tL E fs)) (hn:x ≠ "__name__") (hdb:(x==("__debug__":Str))=false)
   (he:starEach (e::es) X.env=(false,eval e X.env)::starEach es X.env) (hpl:(backTo pos (starEach es X.env)).any (·.1)=false):PE X (.Call (.Name x p) (e::es) [] pos) (tD E fun Γ=>M.bind (fs Γ) k):=by
 obtain ⟨r,ho,hk⟩:=ot
 refine PE.mono (qmw ho hg hm hv ha hn hdb he hpl) fun σ H Q ⟨w,Γ,S,rel,hold,q⟩=> ?_
 exact qb7 (k:=fun ds _=>k ds) rel hold q fun ds vs S1 w1 H1 l1 rel1 h1 rv q1=>hk E w1 H1 S1 ds vs Q h1 rv q1
theorem qfg {T:String} (ot:qep X (.type T) k) (hg:Gl X x) (hm:X.mg x=none) (hv:bootBuiltins x=some (.type T)) (ha:PA X (e::es) (tL E fs)) (hn:x ≠ "__name__") (hdb:(x==("__debug__":Str))=false)
   (he:starEach (e::es) X.env=(false,eval e X.env)::starEach es X.env) (hpl:(backTo pos (starEach es X.env)).any (·.1)=false):PE X (.Call (.Name x p) (e::es) [] pos) (tD E fun Γ=>M.bind (fs Γ) k):=by
 obtain ⟨r,ho,hk⟩:=ot
 refine PE.mono (qka ho hg hm hv ha hn hdb he hpl) fun σ H Q ⟨w,Γ,S,rel,hold,q⟩=> ?_
 exact qb7 (k:=fun ds _=>k ds) rel hold q fun ds vs S1 w1 H1 l1 rel1 h1 rv q1=>hk E w1 H1 S1 ds vs Q h1 rv q1
theorem qf.one_ {w:Wd} {H:Hp} {d:D} {vs:List V} (r:qf w H [d] vs):∃ v,vs=[v]∧Rep w H d v:=by
 obtain ⟨v,u,e,h,t⟩:=r
 cases (show u=[] from t)
 exact⟨v,e,h⟩
theorem qf.two_ {w:Wd} {H:Hp} {d d':D} {vs:List V} (r:qf w H [d,d'] vs):∃ v v',vs=[v,v']∧Rep w H d v∧Rep w H d' v':=by
 obtain ⟨v,u,e,h,t⟩:=r
 obtain ⟨v',e',h'⟩:=t.one_
 subst e'
 exact⟨v,v',e,h,h'⟩
noncomputable def q06:List D→M D
 | [d]=>fun S=>match look d S with
   | .lst xs=>M.pure (.int xs.length) S
   | .tup xs=>M.pure (.int xs.length) S
   | .dct ks _=>M.pure (.int ks.length) S
   | .str z=>(if sizeOk z.length then M.pure (.int z.length)else M.fail) S
   | _=>M.fail S
 | _=>M.fail
theorem qrn:qbj X (.builtin "len") (fun xs H Q=>∃ a kvs,xs=[V.ref a]∧Rd H a (.dK kvs)∧Q (.int kvs.length) H):=by
 intro pins s σ H xs us Q I r h
 obtain ⟨a,kvs,rfl,ha,q⟩:=h
 obtain ⟨u,rfl,ru⟩:=vals1 r
 cases ru
 exact q3m I ha fun t s' I'=>⟨.int kvs.length,H,I',⟨t,rfl⟩,q⟩
theorem q07:qep X (.builtin "len") q06:=by
 refine⟨_,qe8.or (qrn.or qk8),fun E w H S ds vs Q h rv q=> ?_⟩
 unfold q06 at q
 split at q
 case h_2=>exact False.elim q
 case h_1 d =>
   obtain ⟨v,rfl,r⟩:=rv.one_
   cases e1:look d S <;> rw[e1]at q <;> first | exact False.elim q | skip
   case lst xs =>
     obtain ⟨p,vs,rfl,hp,hvs⟩:=qt h r e1
     exact .inl ⟨p,vs,rfl,.inl (SqL.of hp),by rw[← hvs.length];exact now h (d:=.int _) rfl q⟩
   case tup xs =>
     obtain ⟨p,vs,rfl,hp,hvs⟩:=qag h r e1
     exact .inl ⟨p,vs,rfl,.inr (SqT.of hp),by rw[← hvs.length];exact now h (d:=.int _) rfl q⟩
   case dct ks xs =>
     obtain ⟨p,vs,rfl,hp,hl,hvs⟩:=qdr h r e1
     refine .inr (.inl ⟨p,_,rfl,hp,?_⟩)
     rw[List.length_zip,← hvs.length,← hl,Nat.min_self]
     exact now h (d:=.int _) rfl q
   case str z =>
     obtain ⟨hz,q⟩:=Wp.iteF q
     exact .inr (.inr ⟨z,by rw[qa1 r e1],of_decide_eq_true hz,now h (d:=.int _) rfl q⟩)
noncomputable def qbp:List D→Option (List Bool)
 | []=>some []
 | .bl i::ds=>(qbp ds).map (i::·)
 | _=>none
noncomputable def strsOf:List D→Option (List Str)
 | []=>some []
 | .str i::ds=>(strsOf ds).map (i::·)
 | _=>none
theorem qki {w:Wd} {H:Hp}:∀ {ds:List D} {vs:List V} {ns:List Bool},qbp ds=some ns→qf w H ds vs→vs=ns.map V.bl
 | [],_,_,e,r=>by cases e;exact r
 | .bl i::ds,_,_,e,⟨v,u,e1,h,t⟩=>by
   simp only [qbp,Option.map_eq_some_iff]at e
   obtain ⟨ns,e2,rfl⟩:=e
   rw[e1,qki e2 t,show v=.bl i from h]
   rfl
 | .non::_,_,_,e,_=>by simp [qbp]at e
 | .int _::_,_,_,e,_=>by simp [qbp]at e
 | .str _::_,_,_,e,_=>by simp [qbp]at e
 | .ty _::_,_,_,e,_=>by simp [qbp]at e
 | .at_ _::_,_,_,e,_=>by simp [qbp]at e
 | .ref _::_,_,_,e,_=>by simp [qbp]at e
 | .lst _::_,_,_,e,_=>by simp [qbp]at e
 | .tup _::_,_,_,e,_=>by simp [qbp]at e
 | .dct _ _::_,_,_,e,_=>by simp [qbp]at e
 | .obj _ _ _::_,_,_,e,_=>by simp [qbp]at e
theorem qig {w:Wd} {H:Hp}:∀ {ds:List D} {vs:List V} {ns:List Str},strsOf ds=some ns→qf w H ds vs→vs=ns.map V.str
 | [],_,_,e,r=>by cases e;exact r
 | .str i::ds,_,_,e,⟨v,u,e1,h,t⟩=>by
   simp only [strsOf,Option.map_eq_some_iff]at e
   obtain ⟨ns,e2,rfl⟩:=e
   rw[e1,qig e2 t,show v=.str i from h]
   rfl
 | .non::_,_,_,e,_=>by simp [strsOf]at e
 | .int _::_,_,_,e,_=>by simp [strsOf]at e
 | .bl _::_,_,_,e,_=>by simp [strsOf]at e
 | .ty _::_,_,_,e,_=>by simp [strsOf]at e
 | .at_ _::_,_,_,e,_=>by simp [strsOf]at e
 | .ref _::_,_,_,e,_=>by simp [strsOf]at e
 | .lst _::_,_,_,e,_=>by simp [strsOf]at e
 | .tup _::_,_,_,e,_=>by simp [strsOf]at e
 | .dct _ _::_,_,_,e,_=>by simp [strsOf]at e
 | .obj _ _ _::_,_,_,e,_=>by simp [strsOf]at e
noncomputable def qgt (f:List D→M D):List D→M D
 | [d]=>fun S=>match look d S with
   | .lst xs=>f xs S
   | _=>M.fail S
 | _=>M.fail
theorem qty {w:Wd} {H:Hp} {S:Sto} {f:List D→M D} {ds:List D} {vs:List V} {Q:VK} (h:qi w H S) (rv:qf w H ds vs) (q:Wp E w H (qgt f ds S) (PV Q)):∃ p us xs,vs=[.ref p]∧H p=some (.lst us)∧qf w H xs us∧Wp E w H (f xs S) (PV Q):=by
 unfold qgt at q
 split at q
 case h_2=>exact False.elim q
 case h_1 d =>
   obtain ⟨v,rfl,r⟩:=rv.one_
   cases e1:look d S <;> rw[e1]at q <;> first | exact False.elim q | skip
   obtain ⟨p,vs,rfl,hp,hvs⟩:=qt h r e1
   exact⟨p,vs,_,rfl,hp,hvs,q⟩
noncomputable def qpb (xs:List D):M D:=match qbp xs with
 | some ns=>M.pure (.bl (ns.all id))
 | none=>M.fail
theorem q08 (hc:X.calm=true):qep X (.builtin "all") (qgt qpb):=by
 refine⟨_,qti hc,fun E w H S ds vs Q h rv q=> ?_⟩
 obtain ⟨p,us,xs,rfl,hp,r,q⟩:=qty h rv q
 unfold qpb at q
 cases e:qbp xs with
 | none=>rw[e]at q;exact False.elim q
 | some ns=>rw[e]at q;exact⟨p,ns,rfl,by rw[← qki e r];exact SqL.of hp,now h (d:=.bl _) rfl q⟩
noncomputable def qtz (new:Bool):List D→M D
 | [d]=>fun S=>match look d S with
   | .lst xs=>alloc new (.lst xs) S
   | .tup xs=>alloc new (.lst xs) S
   | _=>M.fail S
 | _=>M.fail
theorem qwx {new:Bool}:qep X (.type "list") (qtz new):=by
 refine⟨_,qe9,fun E w H S ds vs Q h rv q=> ?_⟩
 unfold qtz at q
 split at q
 case h_2=>exact False.elim q
 case h_1 d =>
   obtain ⟨v,rfl,r⟩:=rv.one_
   cases e1:look d S <;> rw[e1]at q <;> first | exact False.elim q | skip
   case lst xs =>
     obtain ⟨p,vs,rfl,hp,hvs⟩:=qt h r e1
     exact⟨p,vs,rfl,.inl (SqL.of hp),fun l hl=>qbn h hvs q hl⟩
   case tup xs =>
     obtain ⟨p,vs,rfl,hp,hvs⟩:=qag h r e1
     exact⟨p,vs,rfl,.inr (SqT.of hp),fun l hl=>qbn h hvs q hl⟩
noncomputable def qt0:List D→M D
 | [d]=>fun S=>match look d S with
   | .lst xs=>M.pure (.tup xs) S
   | .tup xs=>M.pure (.tup xs) S
   | _=>M.fail S
 | _=>M.fail
theorem q09:qep X (.type "tuple") qt0:=by
 refine⟨_,qjh,fun E w H S ds vs Q h rv q=> ?_⟩
 unfold qt0 at q
 split at q
 case h_2=>exact False.elim q
 case h_1 d =>
   obtain ⟨v,rfl,r⟩:=rv.one_
   cases e1:look d S <;> rw[e1]at q <;> first | exact False.elim q | skip
   case lst xs =>
     obtain ⟨p,vs,rfl,hp,hvs⟩:=qt h r e1
     exact⟨p,vs,rfl,.inl ⟨SqL.of hp,fun l hl=>qhi h hvs q hl⟩⟩
   case tup xs =>
     obtain ⟨p,vs,rfl,hp,hvs⟩:=qag h r e1
     have:look d S=d:=by cases d <;> first | rfl | (unfold look at e1;dsimp only at e1;split at e1 <;> cases e1)
     rw[this]at e1
     exact⟨p,vs,rfl,.inr ⟨SqT.of hp,now h (by rw[← e1];exact r) q⟩⟩
noncomputable def intD:List D→M D
 | [.int i]=>M.pure (.int i)
 | [.bl b]=>M.pure (.int (if b then 1 else 0))
 | [.str x]=>match PySem.intText? x with
   | some n=>if decide (x.length≤640)then M.pure (.int n)else M.fail
   | none=>M.fail
 | _=>M.fail
theorem q1a:qep X (.type "int") intD:=by
 refine⟨_,qq9.or qjk,fun E w H S ds vs Q h rv q=> ?_⟩
 unfold intD at q
 split at q
 case h_1 i=>obtain ⟨v,rfl,r⟩:=rv.one_;exact .inl (.inl ⟨i,by rw[show v=.int i from r],now h (d:=.int _) rfl q⟩)
 case h_2 b=>obtain ⟨v,rfl,r⟩:=rv.one_;exact .inl (.inr ⟨b,by rw[show v=.bl b from r],now h (d:=.int _) rfl q⟩)
 case h_3 x =>
   obtain ⟨v,rfl,r⟩:=rv.one_
   cases e1:PySem.intText? x with
   | none=>rw[e1]at q;exact False.elim q
   | some n =>
     rw[e1]at q
     obtain ⟨hz,q⟩:=Wp.iteF q
     exact .inr ⟨x,n,by rw[show v=.str x from r],e1,of_decide_eq_true hz,now h (d:=.int _) rfl q⟩
 case h_4=>exact False.elim q
noncomputable def q1b:List D→M D
 | [.int i]=>if decide (i.natAbs.log2 < 1920)then M.pure (.str (toString i))else M.fail
 | [.str x]=>M.pure (.str x)
 | _=>M.fail
theorem q1c:qep X (.type "str") q1b:=by
 refine⟨_,qk5.or qli,fun E w H S ds vs Q h rv q=> ?_⟩
 unfold q1b at q
 split at q
 case h_1 i =>
   obtain ⟨hz,q⟩:=Wp.iteF q
   obtain ⟨v,rfl,r⟩:=rv.one_;exact .inl ⟨i,by rw[show v=.int i from r],of_decide_eq_true hz,now h (d:=.str _) rfl q⟩
 case h_2 x=>obtain ⟨v,rfl,r⟩:=rv.one_;exact .inr ⟨x,by rw[show v=.str x from r],now h (d:=.str _) rfl q⟩
 case h_3=>exact False.elim q
end
inductive Fl where
 | nx | rt (d:D) | bk | ct
noncomputable abbrev MS:=Env→M (Fl × Env)
noncomputable def qek (D:Ends):Fl × Env→Sto→Wd→Hp→Prop:=fun r _ w H=>match r.1 with
 | .nx=>∀ σ,Rel w H σ r.2→D.nx σ H
 | .rt d=>∀ v,Rep w H d v→D.rt v H
 | .bk=>∀ σ,Rel w H σ r.2→D.bk σ H
 | .ct=>∀ σ,Rel w H σ r.2→D.ct σ H
noncomputable def tS (E:XW) (g:MS):TS:=fun D σ H=>∃ w Γ S,Rel w H σ Γ∧qi w H S∧Wp E w H (g Γ S) (qek D)
noncomputable def But (T:List Nat) (σ σ':St):Prop:=∀ i,i ∉ T→σ'[i]? =σ[i]?
theorem But.refl (T:List Nat) (σ:St):But T σ σ:=fun _ _=>rfl
noncomputable def tG (E:XW) (T:List Nat) (h:D→Env→M Env):TG:=fun v σ H Q=>∃ w d Γ S,Rel w H σ Γ∧qi w H S∧Rep w H d v∧Wp E w H (h d Γ S) fun Γ' _ w' H'=>∀ σ',Rel w' H' σ' Γ'→But T σ σ'→Q σ' H'
noncomputable def tGs (E:XW) (T:List Nat) (h:List D→Env→M Env):TGs:=fun vs σ H Q=>∃ w ds Γ S,Rel w H σ Γ∧qi w H S∧qf w H ds vs∧Wp E w H (h ds Γ S) fun Γ' _ w' H'=>∀ σ',Rel w' H' σ' Γ'→But T σ σ'→Q σ' H'
section
variable {X:Cx} {E:XW} {a b c e:Expr} {f g h':Env→M D} {pos:Pos} {s1 s2:MS} {st:Stmt} {rest:List Stmt}
theorem PG.mono {tg:Expr} {t t':TG} (h:PG X tg t) (k:∀ v σ H Q,t' v σ H Q→t v σ H Q):PG X tg t':=fun pins s σ H v u Q I r q=>h pins s σ H v u Q I r (k v σ H Q q)
theorem PGs.mono {tg:List Expr} {t t':TGs} (h:PGs X tg t) (k:∀ v σ H Q,t' v σ H Q→t v σ H Q):PGs X tg t':=fun pins s σ H v u Q I r q=>h pins s σ H v u Q I r (k v σ H Q q)
noncomputable def qyy:MS:=fun Γ=>M.pure (.nx,Γ)
noncomputable def seqS (g h:MS):MS:=fun Γ=>M.bind (g Γ) fun r=>match r.1 with
 | .nx=>h r.2
 | _=>M.pure r
theorem q39:PSs X [] (tS E qyy):=PSs.mono qvz fun D σ H ⟨w,Γ,S,rel,hold,q⟩=>q _ _ (Le.refl _ _) hold σ rel
theorem qlk (h1:PS X st (tS E s1)) (h2:PSs X rest (tS E s2)):PSs X (st::rest) (tS E (seqS s1 s2)):=by
 refine PSs.mono (qdm h1 h2) fun D σ H ⟨w,Γ,S,rel,hold,q⟩=> ?_
 refine⟨w,Γ,S,rel,hold,(Wp.bind q).mono fun r S1 w1 H1 l1 h1 q1=> ?_⟩
 obtain ⟨fl,Γ1⟩:=r
 cases fl with
 | nx=>exact fun σ' rel'=>⟨w1,Γ1,S1,rel',h1,q1⟩
 | rt d=>exact fun v rv=>(q1 _ _ (Le.refl _ _) h1:qek D (.rt d,Γ1) S1 w1 H1) v rv
 | bk=>exact fun σ' rel'=>(q1 _ _ (Le.refl _ _) h1:qek D (.bk,Γ1) S1 w1 H1) σ' rel'
 | ct=>exact fun σ' rel'=>(q1 _ _ (Le.refl _ _) h1:qek D (.ct,Γ1) S1 w1 H1) σ' rel'
theorem q1d (he:PE X e (tD E f)) (hs:swapsWith e none pos.line X.env=pure false):PS X (.Expr e pos) (tS E fun Γ=>M.bind (f Γ) fun _=>M.pure (.nx,Γ)):=by
 refine PS.mono (qk0 he hs) fun D σ H ⟨w,Γ,S,rel,hold,q⟩=> ?_
 exact qh (k:=fun _ Γ=>M.pure (Fl.nx,Γ)) rel hold q fun dx x S1 w1 H1 l1 rel1 h1 rx q1=>(q1 _ _ (Le.refl _ _) h1:qek D (.nx,Γ) S1 w1 H1) σ rel1
theorem q4a (he:PE X e (tD E f)):PS X (.Return (some e) pos) (tS E fun Γ=>M.bind (f Γ) fun d=>M.pure (.rt d,Γ)):=by
 refine PS.mono (qsr he) fun D σ H ⟨w,Γ,S,rel,hold,q⟩=> ?_
 exact qh (k:=fun d Γ=>M.pure (Fl.rt d,Γ)) rel hold q fun dx x S1 w1 H1 l1 rel1 h1 rx q1=>(q1 _ _ (Le.refl _ _) h1:qek D (.rt dx,Γ) S1 w1 H1) x rx
noncomputable def ifS (c:Env→M Bool) (g h:MS):MS:=fun Γ=>M.bind (c Γ) fun b=>if b=true then g Γ else h Γ
theorem q6u {fc:Env→M Bool} {x y:List Stmt} (hc:PT X c (tB E fc)) (h1:PSs X x (tS E s1)) (h2:PSs X y (tS E s2)):PS X (.If c x y pos) (tS E (ifS fc s1 s2)):=by
 refine PS.mono (qyp hc h1 h2) fun D σ H ⟨w,Γ,S,rel,hold,q⟩=> ?_
 refine qd8 (k:=fun b Γ=>if b=true then s1 Γ else s2 Γ) rel hold q fun bb S1 w1 H1 l1 rel1 h1 q1=> ?_
 cases bb with
 | true=>exact⟨w1,Γ,S1,rel1,h1,q1⟩
 | false=>exact⟨w1,Γ,S1,rel1,h1,q1⟩
noncomputable def q1e (i:Nat) (d:D) (Γ:Env):M Env:=M.pure (Γ.set i (some d))
theorem q1f {i:Nat} {x:Str} (hN:X.N.Nodup) (hi:X.N[i]? =some x) (hx:Loc X.env.scope x) (hf:X.fn x=true∨X.env.scope.names.lookup x=some .local):PG X (.Name x pos) (tG E [i] (q1e i)):=by
 refine PG.mono (qv0 hN hi hx hf) fun v σ H Q ⟨w,d,Γ,S,rel,hold,rv,q⟩=> ?_
 exact q _ _ (Le.refl _ _) hold _ (rel.set rv) fun j hj=>List.getElem?_set_ne (fun e=>hj (by simp [e]))
noncomputable def qt1:List D→Env→M Env
 | [],Γ=>M.pure Γ
 | _,_=>M.fail
noncomputable def qll (h:D→Env→M Env) (r:List D→Env→M Env):List D→Env→M Env
 | d::ds,Γ=>M.bind (h d Γ) fun Γ'=>r ds Γ'
 | [],_=>M.fail
theorem q4b:PGs X [] (tGs E [] qt1):=by
 refine PGs.mono qv1 fun vs σ H Q ⟨w,ds,Γ,S,rel,hold,rv,q⟩=> ?_
 cases ds with
 | nil=>exact⟨rv,q _ _ (Le.refl _ _) hold _ rel (But.refl _ _)⟩
 | cons d ds=>exact False.elim q
theorem q1g {es:List Expr} {T1 T2:List Nat} {hd:D→Env→M Env} {r:List D→Env→M Env} (h1:PG X e (tG E T1 hd)) (h2:PGs X es (tGs E T2 r)) (hs:(assignEach (e::es) X.env).map (·.2)=assign e X.env::(assignEach es X.env).map (·.2)):PGs X (e::es) (tGs E (T1++T2) (qll hd r)):=by
 refine PGs.mono (qss h1 h2 hs) fun vs σ H Q ⟨w,ds,Γ,S,rel,hold,rv,q⟩=> ?_
 cases ds with
 | nil=>exact False.elim q
 | cons d ds =>
   obtain ⟨v,u,rfl,rd,t⟩:=rv
   exact⟨v,u,rfl,w,d,Γ,S,rel,hold,rd,(Wp.bind q).mono fun Γ1 S1 w1 H1 l1 h1 q1 σ1 rel1 b1=>⟨w1,ds,Γ1,S1,rel1,h1,t.mono l1,q1.mono fun Γ2 S2 w2 H2 _ _ q2 σ2 rel2 b2=>q2 σ2 rel2 fun j hj=>(b2 j (fun z=>hj (List.mem_append_right _ z))).trans (b1 j fun z=>hj (List.mem_append_left _ z))⟩⟩
noncomputable def qt2 (n:Nat) (r:List D→Env→M Env) (d:D) (Γ:Env):M Env:=fun S=>match look d S with
 | .tup ds=>if ds.length=n then r ds Γ S else .no
 | .lst ds=>if ds.length=n then r ds Γ S else .no
 | _=>.no
theorem PG.or {tg:Expr} {t t':TG} (h:PG X tg t) (h':PG X tg t'):PG X tg (fun v σ H Q=>t v σ H Q∨t' v σ H Q):=fun pins s σ H v u Q I r q=>q.elim (h pins s σ H v u Q I r) (h' pins s σ H v u Q I r)
theorem q4c {es:List Expr} {k n:Nat} {T:List Nat} {r:List D→Env→M Env} (hc:X.calm=true) (h:PGs X es (tGs E T r)) (hn:(assignEach es X.env).length=n) (hst:(assignEach es X.env).findIdx? (·.1)=none):PG X (.Tuple es k pos) (tG E T (qt2 n r)):=by
 refine PG.mono (PG.or (qzj hc h hn hst) (qwo hc h hn hst)) fun v σ H Q ⟨w,d,Γ,S,rel,hold,rv,q⟩=> ?_
 unfold qt2 at q
 cases e1:look d S <;> rw[e1]at q <;> first | exact False.elim q | skip
 case tup ds =>
   dsimp only at q
   by_cases hl:ds.length=n
   · rw[if_pos hl]at q
     obtain ⟨p,vs,rfl,hp,hvs⟩:=qag hold rv e1
     exact .inl ⟨p,vs,rfl,SqT.of hp,by rw[← hvs.length];exact hl,w,ds,Γ,S,rel,hold,hvs,q⟩
   · rw[if_neg hl]at q;exact False.elim q
 case lst ds =>
   dsimp only at q
   by_cases hl:ds.length=n
   · rw[if_pos hl]at q
     obtain ⟨p,vs,rfl,hp,hvs⟩:=qt hold rv e1
     exact .inr ⟨p,vs,rfl,SqL.of hp,by rw[← hvs.length];exact hl,w,ds,Γ,S,rel,hold,hvs,q⟩
   · rw[if_neg hl]at q;exact False.elim q
theorem q4d {tg:Expr} {T:List Nat} {hd:D→Env→M Env} (he:PE X e (tD E f)) (hg:PG X tg (tG E T hd)) (hs:swapsWithSole [tg] e pos.line X.env=pure false) (hw:swappedStores [tg] e X.env=pure none) (h1:(assignEach [tg] X.env).map (·.2)=[assign tg X.env]):PS X (.Assign [tg] e pos) (tS E fun Γ=>M.bind (f Γ) fun d=>M.bind (hd d Γ) fun Γ'=>M.pure (.nx,Γ')):=by
 refine PS.mono (qzl he hg hs hw h1) fun D σ H ⟨w,Γ,S,rel,hold,q⟩=> ?_
 refine qh (k:=fun d Γ=>M.bind (hd d Γ) fun Γ'=>M.pure (Fl.nx,Γ')) rel hold q fun dx x S1 w1 H1 l1 rel1 h1 rx q1=> ?_
 exact⟨w1,dx,Γ,S1,rel1,h1,rx,(Wp.bind q1).mono fun Γ2 S2 w2 H2 l2 h2 q2 σ' rel' _=>(q2 _ _ (Le.refl _ _) h2:qek D (.nx,Γ2) S2 w2 H2) σ' rel'⟩
theorem qt3 {i:Nat} {x:Str} {pos':Pos} (hN:X.N.Nodup) (hi:X.N[i]? =some x) (hx:Loc X.env.scope x) (he:PE X e (tD E f)) (hs:swapsWith e (some (.Name x pos')) pos.line X.env=pure false) (hf:X.fn x=true∨X.env.scope.names.lookup x=some .local) :
   PS X (.Assign [.Name x pos'] e pos) (tS E fun Γ=>M.bind (f Γ) fun d=>M.pure (.nx,Γ.set i (some d))):=by
 refine PS.mono (qos hN hi hx he hs hf) fun D σ H ⟨w,Γ,S,rel,hold,q⟩=> ?_
 exact qh (k:=fun d Γ=>M.pure (Fl.nx,Γ.set i (some d))) rel hold q fun dx x S1 w1 H1 l1 rel1 h1 rx q1=>(q1 _ _ (Le.refl _ _) h1:qek D (.nx,_) S1 w1 H1) _ (rel1.set rx)
noncomputable def qgu (ks:List Key) (k:Key):List Key:=if qic ks k then ks else ks++[k]
noncomputable def qgv {α:Type} (k:Key) (v:α):List Key→List α→List α
 | j::ks,x::xs=>(if j=k then v else x)::qgv k v ks xs
 | _,_=>[]
noncomputable def qdt {α:Type} (ks:List Key) (xs:List α) (k:Key) (v:α):List α:=if qic ks k then qgv k v ks xs else xs++[v]
theorem qkj {α:Type} (k:Key) (v:α):∀ {ks:List Key} {xs:List α},ks.length=xs.length→(qgv k v ks xs).length=ks.length
 | [],[],_=>rfl
 | [],_::_,h=>by simp at h
 | _::_,[],h=>by simp at h
 | j::ks,x::xs,h=>by simp [qgv,qkj k v (ks:=ks) (xs:=xs) (by simpa using h)]
theorem qro {α:Type} (k:Key) (v:α) {ks:List Key} {xs:List α} (h:ks.length=xs.length):(qgu ks k).length=(qdt ks xs k v).length:=by
 unfold qgu qdt
 cases qic ks k with
 | true=>simp [qkj k v h]
 | false=>simp [h]
theorem qkk (k:Key) (v:V):∀ {ks:List Key} {vs:List V},ks.length=vs.length→((ks.zip vs).map fun kv=>if kv.1=k then (kv.1,v)else kv)=ks.zip (qgv k v ks vs)
 | [],[],_=>rfl
 | [],_::_,h=>by simp at h
 | _::_,[],h=>by simp at h
 | j::ks,x::xs,h=>by
   rw[List.zip_cons_cons,List.map_cons,qkk k v (by simpa using h),qgv,List.zip_cons_cons]
   by_cases e:j=k <;> simp [e]
theorem qqo (k:Key):∀ {ks:List Key} {vs:List V},ks.length=vs.length→((ks.zip vs).any fun kv=>decide (kv.1=k))=qic ks k
 | [],[],_=>rfl
 | [],_::_,h=>by simp at h
 | _::_,[],h=>by simp at h
 | j::ks,x::xs,h=>by
   have:=qqo k (ks:=ks) (vs:=xs) (by simpa using h)
   unfold qic at this ⊢
   rw[List.zip_cons_cons,List.any_cons,List.any_cons,this]
theorem qt4 (k:Key) (v:V) {ks:List Key} {vs:List V} (h:ks.length=vs.length):putK (ks.zip vs) k v=(qgu ks k).zip (qdt ks vs k v):=by
 unfold putK qgu qdt
 rw[qqo k h]
 cases qic ks k with
 | true=>rw[if_pos rfl,if_pos rfl,if_pos rfl];exact qkk k v h
 | false =>
   rw[if_neg Bool.false_ne_true,if_neg Bool.false_ne_true,if_neg Bool.false_ne_true,List.zip_append h]
   rfl
theorem qkl {w:Wd} {H:Hp} {k:Key} {d:D} {v:V} (r:Rep w H d v):∀ {ks:List Key} {xs:List D} {vs:List V},qf w H xs vs→qf w H (qgv k d ks xs) (qgv k v ks vs)
 | [],xs,vs,_=>by cases xs <;> cases vs <;> rfl
 | _::_,[],vs,h=>by cases (show vs=[] from h);rfl
 | j::ks,x::xs,vs,⟨u,s,e,h,t⟩=>by
   subst e
   refine⟨_,_,rfl,?_,qkl r t⟩
   by_cases e:j=k
   · simp only [e,if_true];exact r
   · simp only [e,if_false];exact h
theorem qrp {w:Wd} {H:Hp} {k:Key} {d:D} {v:V} (r:Rep w H d v) {ks:List Key} {xs:List D} {vs:List V} (h:qf w H xs vs):qf w H (qdt ks xs k d) (qdt ks vs k v):=by
 unfold qdt
 cases qic ks k with
 | true=>exact qkl r h
 | false=>exact h.append (qf.one r)
noncomputable def setM (o i v:D):M Unit:=fun S=>match o with
 | .ref l=>match S[l]? with
   | some (.lst xs)=>match i with
     | .int k=>match ixN xs.length k with
       | some j=>.ok () (S.set l (.lst (xs.set j v)))
       | none=>.no
     | _=>.no
   | some (.dct ks xs)=>match keyOf i with
     | some k=>if ks.length < sizeLine then .ok () (S.set l (.dct (qgu ks k) (qdt ks xs k v)))else .no
     | none=>.no
   | _=>.no
 | _=>.no
theorem qjf.or {t t':qor} (h:qjf X t) (h':qjf X t'):qjf X (fun o i v H Q=>t o i v H Q∨t' o i v H Q):=fun pins s σ H o i v ov iv u Q I r1 r2 r3 q=>q.elim (h pins s σ H o i v ov iv u Q I r1 r2 r3) (h' pins s σ H o i v ov iv u Q I r1 r2 r3)
noncomputable def qqp:qor:=fun o i v H Q=>∃ a H',o=.ref a∧qtj H a i v H'∧Q H'
theorem qqq (hu:X.A.units+1 < cLine):qjf X qqp:=by
 intro pins s σ H o i v ov iv u Q I r1 r2 r3 h
 obtain ⟨a,H',rfl,g,q⟩:=h
 cases (show ov=Value.ref a from r1)
 exact qri hu I g r2 r3 fun s' I'=>⟨H',I',q⟩
theorem qkm {w:Wd} {H:Hp} {d:D} {v:V} {k:Key} (r:Rep w H d v) (e:keyOf d=some k):v=kV k:=by
 cases d <;> simp only [keyOf]at e <;> first | (cases e;done) | (cases e;exact r)
theorem qt5 {w:Wd} {H:Hp} {S:Sto} {o i v:D} {ov iv vv:V} {P:Unit→Sto→Wd→Hp→Prop} {Q:Hp→Prop} (h:qi w H S) (ro:Rep w H o ov) (ri:Rep w H i iv) (rv:Rep w H v vv) (q:Wp E w H (setM o i v S) P)
   (hk:∀ S' H',Le w H w H'→qi w H' S'→P () S' w H'→Q H'):qyr ov iv vv H Q∨qqp ov iv vv H Q:=by
 unfold setM at q
 cases o <;> first | exact False.elim q | skip
 rename_i l
 dsimp only at q
 obtain ⟨a,ea,rfl⟩:=ro
 cases e:S[l]? with
 | none=>rw[e]at q;exact False.elim q
 | some c =>
   rw[e]at q
   have ce:=h.cell l a c ea e
   cases c with
   | gone=>exact False.elim q
   | obj _ _ _=>exact False.elim q
   | lst xs =>
     dsimp only at q
     cases i <;> first | exact False.elim q | skip
     rename_i k
     dsimp only at q
     cases e2:ixN xs.length k with
     | none=>rw[e2]at q;exact False.elim q
     | some j =>
       rw[e2]at q
       obtain ⟨nz,vs,ha,hvs⟩:=ce
       have hw:qi w (upd H a (.lst (vs.set j vv))) (S.set l (.lst (xs.set j v))):=qew h ea nz ⟨nz,_,qj,(hvs.set rv j).mono (qbb nz)⟩
       exact .inl ⟨a,vs,k,j,rfl,ri,ha,by rw[← hvs.length];exact e2,hk _ _ (qbb nz) hw (q _ _ (qbb nz) hw)⟩
   | dct ks xs =>
     dsimp only at q
     cases e2:keyOf i with
     | none=>rw[e2]at q;exact False.elim q
     | some k =>
       rw[e2]at q
       dsimp only at q
       by_cases hz:ks.length < sizeLine
       · rw[if_pos hz]at q
         obtain ⟨nz,vs,ha,hl,hvs⟩:=ce
         have hl2:ks.length=vs.length:=by rw[hl,hvs.length]
         have hw:qi w (upd H a (.dK ((qgu ks k).zip (qdt ks vs k vv)))) (S.set l (.dct (qgu ks k) (qdt ks xs k v))):=qew h ea nz ⟨nz,_,qj,qro k v hl,(qrp rv hvs).mono (qbb nz)⟩
         refine .inr ⟨a,_,rfl,?_,hk _ _ (qbb nz) hw (q _ _ (qbb nz) hw)⟩
         rw[← qt4 k vv hl2,qkm ri e2]
         exact qtj.k ha (by rw[List.length_zip,← hl2,Nat.min_self];exact hz)
       · rw[if_neg hz]at q;exact False.elim q
noncomputable def q1h (f g:Env→M D) (d:D) (Γ:Env):M Env:=M.bind (f Γ) fun o=>M.bind (g Γ) fun i=>M.bind (setM o i d) fun _=>M.pure Γ
theorem q4e {o i:Expr} (hu:X.A.units+1 < cLine) (ho:PE X o (tD E f)) (hi:PE X i (tD E g)) (ha:∀ v,assign (.Subscript o i pos) X.env v=(do
     let ov ← holding [v] (eval o X.env)
     let iv ← holding [v,ov] (eval i X.env)
     standAt pos
     holding [v,ov,iv] (setItem ov iv v)
     release [v,ov,iv] [])):PG X (.Subscript o i pos) (tG E [] (q1h f g)):=by
 refine PG.mono (qzk ho hi (qjf.or set_list (qqq hu)) ha) fun v σ H Q ⟨w,d,Γ,S,rel,hold,rv,q⟩=> ?_
 refine qh (k:=fun o Γ=>M.bind (g Γ) fun i=>M.bind (setM o i d) fun _=>M.pure Γ) rel hold q fun dx x S1 w1 H1 l1 rel1 h1 rx q1=> ?_
 refine qh (k:=fun i Γ=>M.bind (setM dx i d) fun _=>M.pure Γ) rel1 h1 q1 fun dy y S2 w2 H2 l2 rel2 h2 ry q2=> ?_
 exact qt5 h2 (rx.mono l2) ry (rv.mono (l1.trans l2)) (Wp.bind q2) fun S3 H3 l3 h3 q3=>q3 _ _ (Le.refl _ _) h3 _ (rel2.mono l3) (But.refl _ _)
noncomputable def ipD (op:Operator):D→D→M D:=match op with
 | .Add=>fun x y=>match x,y with
   | .int i,.int j=>M.pure (.int (i+j))
   | _,_=>M.fail
 | .Sub=>q0k
 | _=>fun _ _=>M.fail
noncomputable def IpT (X:Cx) (op:Operator) (h:D→D→M D):Prop:=∃ r:TIp,PIp X op r∧∀ (E:XW) w H S dx dy x y Q,qi w H S→Rep w H dx x→Rep w H dy y→Wp E w H (h dx dy S) (PV Q)→r x y H Q
theorem qdu {op:Operator}:IpT X op (fun _ _=>M.fail):=⟨fun _ _ _ _=>False,fun _ _ _ _ _ _ _ _ _ _ _ _ h=>False.elim h,fun _ _ _ _ _ _ _ _ _ _ _ _ q=>False.elim q⟩
theorem qwy:IpT X .Add (ipD .Add):=by
 refine⟨_,qzm,fun E w H S dx dy x y Q h rx ry q=> ?_⟩
 cases dx <;> first | exact False.elim q | skip
 cases dy <;> first | exact False.elim q | skip
 exact⟨_,_,rx,ry,now h (d:=.int _) rfl q⟩
theorem qwz:IpT X .Sub (ipD .Sub):=by
 refine⟨_,qzn,fun E w H S dx dy x y Q h rx ry q=> ?_⟩
 cases dx <;> first | exact False.elim q | skip
 cases dy <;> first | exact False.elim q | skip
 exact⟨_,_,rx,ry,now h (d:=.int _) rfl q⟩
theorem q4f:∀ op:Operator,IpT X op (ipD op)
 | .Add=>qwy
 | .Sub=>qwz
 | .Mult=>qdu
 | .FloorDiv=>qdu
 | .Mod=>qdu
 | .Pow=>qdu
 | .MatMult=>qdu
 | .Div=>qdu
 | .LShift=>qdu
 | .RShift=>qdu
 | .BitOr=>qdu
 | .BitXor=>qdu
 | .BitAnd=>qdu
theorem qmu.or {t t':V→V→Hp→VK→Prop} (h:qmu X t) (h':qmu X t'):qmu X (fun o i H Q=>t o i H Q∨t' o i H Q):=fun pins s σ H o i ov iv Q I r1 r2 q=>q.elim (h pins s σ H o i ov iv Q I r1 r2) (h' pins s σ H o i ov iv Q I r1 r2)
theorem qw0 (hu:X.A.units+1 < cLine):qmu X (fun x y H Q=>∃ a v,x=.ref a∧qf5 H a y (some v)∧Q v H):=by
 intro pins s σ H o i ov iv Q I r1 r2 h
 obtain ⟨a,v,rfl,g,q⟩:=h
 cases (show ov=Value.ref a from r1)
 exact qkf hu I g r2 fun w' s' I' rw'=>⟨v,H,I',rw',q⟩
noncomputable def ixW (o i:D):M D:=match o with
 | .ref l=>fun S=>ixM (look (.ref l) S) i S
 | _=>M.fail
noncomputable def augIx (op:Operator) (f g h:Env→M D):MS:=fun Γ=>M.bind (f Γ) fun o=>M.bind (g Γ) fun i=>M.bind (ixW o i) fun x=>M.bind (h Γ) fun y=>M.bind (ipD op x y) fun z=>M.bind (setM o i z) fun _=>M.pure (.nx,Γ)
theorem q1i {w:Wd} {H:Hp} {S:Sto} {o i:D} {ov iv:V} {Q:VK} (h:qi w H S) (ro:Rep w H o ov) (ri:Rep w H i iv) (q:Wp E w H (ixW o i S) (PV Q)):qz4 X.K ov iv H Q∨∃ a v,ov=.ref a∧qf5 H a iv (some v)∧Q v H:=by
 unfold ixW at q
 cases o <;> first | exact False.elim q | skip
 rename_i l
 dsimp only at q
 unfold ixM at q
 cases e1:look (.ref l) S <;> rw[e1]at q <;> first | exact False.elim q | skip
 case lst xs =>
   cases i <;> first | exact False.elim q | skip
   rename_i i
   dsimp only at q
   cases e:atI xs i with
   | none=>rw[e]at q;exact False.elim q
   | some d =>
     rw[e]at q
     obtain ⟨p,vs,rfl,hp,hvs⟩:=qt h ro e1
     obtain ⟨v,e',rv⟩:=qlj hvs e
     exact .inl ⟨p,vs,i,v,rfl,ri,SqL.of hp,e',now h rv q⟩
 case tup xs =>
   unfold look at e1
   dsimp only at e1
   split at e1 <;> cases e1
 case str z =>
   unfold look at e1
   dsimp only at e1
   split at e1 <;> cases e1
 case dct ks ds =>
   dsimp only at q
   cases e:keyOf i with
   | none=>rw[e]at q;exact False.elim q
   | some j =>
     rw[e]at q
     dsimp only at q
     cases e2:qna ks ds j with
     | none=>rw[e2]at q;exact False.elim q
     | some d =>
       rw[e2]at q
       obtain ⟨p,vs,rfl,hp,hl,hvs⟩:=qdr h ro e1
       obtain ⟨v,e',rv⟩:=qif hvs e2
       refine .inr ⟨p,v,rfl,?_,now h rv q⟩
       rw[qkm ri e,← e']
       exact qlh hp
theorem qw1 {op:Operator} {o i:Expr} {tpos:Pos} (hu:X.A.units+1 < cLine) (ho:PE X o (tD E f)) (hi:PE X i (tD E g)) (he:PE X e (tD E h'))
   (ha:∀ ov iv new,augStore i ov iv new=(do holding [new,ov,iv] (setItem ov iv new);release [new,ov,iv] [];pure .next)):PS X (.AugAssign (.Subscript o i tpos) op e pos) (tS E (augIx op f g h')):=by
 obtain ⟨r,hop,hk⟩:=q4f (X:=X) op
 refine PS.mono (qv2 ho hi (qmu.or qta (qw0 hu)) he hop (qjf.or set_list (qqq hu)) ha) fun D σ H ⟨w,Γ,S,rel,hold,q⟩=> ?_
 refine qh (k:=fun o Γ=>M.bind (g Γ) fun i=>M.bind (ixW o i) fun x=>M.bind (h' Γ) fun y=>M.bind (ipD op x y) fun z=>M.bind (setM o i z) fun _=>M.pure (Fl.nx,Γ)) rel hold q fun dx x S1 w1 H1 l1 rel1 h1 rx q1=> ?_
 refine qh (k:=fun i Γ=>M.bind (ixW dx i) fun x=>M.bind (h' Γ) fun y=>M.bind (ipD op x y) fun z=>M.bind (setM dx i z) fun _=>M.pure (Fl.nx,Γ)) rel1 h1 q1 fun dy y S2 w2 H2 l2 rel2 h2 ry q2=> ?_
 refine q1i (X:=X) (E:=E) h2 (rx.mono l2) ry ((Wp.bind q2).mono fun dz S3 w3 H3 l3 h3 q3 z rz=> ?_)
 refine qh (k:=fun y Γ=>M.bind (ipD op dz y) fun z=>M.bind (setM dx dy z) fun _=>M.pure (Fl.nx,Γ)) (rel2.mono l3) h3 q3 fun du u S4 w4 H4 l4 rel4 h4 ru q4=> ?_
 refine hk E w4 H4 S4 dz du z u _ h4 (rz.mono l4) ru ((Wp.bind q4).mono fun dn S5 w5 H5 l5 h5 q5 n rn=> ?_)
 exact qt5 h5 (rx.mono (l2.trans (l3.trans (l4.trans l5)))) (ry.mono (l3.trans (l4.trans l5))) rn (Wp.bind q5) fun S6 H6 l6 h6 q6=>(q6 _ _ (Le.refl _ _) h6:qek D (.nx,Γ) S6 w5 H6) σ ((rel4.mono l5).mono l6)
end
noncomputable abbrev Src:=List (Nat × Cell)
noncomputable def qas (src:Src) (S:Sto):Prop:=∀ p ∈ src,S[p.1]? =some p.2
noncomputable def guard (src:Src):M Unit:=fun S=> @ite _ (qas src S) (Classical.propDecidable _) (.ok () S) .no
theorem qt6 {src:Src} {S:Sto} (h:qas src S):guard src S=.ok () S:=by unfold guard;exact if_pos h
theorem qcz {E:XW} {α:Type} {w:Wd} {H:Hp} {src:Src} {S:Sto} {k:M α} {P:α→Sto→Wd→Hp→Prop} (q:Wp E w H (M.bind (guard src) (fun _=>k) S) P):qas src S∧Wp E w H (k S) P:=by
 unfold M.bind guard at q
 by_cases h:qas src S
 · rw[if_pos h]at q;exact⟨h,q⟩
 · rw[if_neg h]at q;exact False.elim q
structure Walks (J:It) (w:Wd) (H:Hp) (src:Src) (items:List D):Prop where
 go:∀ w' H' S' (i:Nat),Le w H w' H'→qi w' H' S'→qas src S'→i < items.length→J.go i H'
 stop:∀ w' H' S',Le w H w' H'→qi w' H' S'→qas src S'→J.stop items.length H'
 yld:∀ w' H' S' (i:Nat) x H'',Le w H w' H'→qi w' H' S'→qas src S'→i < items.length→J.yld i H' x H''→∃ w'' d,items[i]? =some d∧Le w' H' w'' H''∧qi w'' H'' S'∧Rep w'' H'' d x
noncomputable abbrev MI:=Env→M (List D × Src)
noncomputable def tI (E:XW) (f:MI):TI:=fun σ H R=>∃ w Γ S,Rel w H σ Γ∧qi w H S∧Wp E w H (f Γ S) fun r _ w' H'=>∀ J,Walks J w' H' r.2 r.1→R J H'
section
variable {X:Cx} {E:XW} {a b c e tg it:Expr} {f g h':Env→M D} {pos:Pos} {s1 s2:MS} {st:Stmt} {rest:List Stmt} {fi:MI}
theorem PI.mono {t t':TI} (h:PI X tg it t) (k:∀ σ H R,t' σ H R→t σ H R):PI X tg it t':=fun pins s σ H R I q=>h pins s σ H R I (k σ H R q)
theorem PI.or {t t':TI} (h:PI X tg it t) (h':PI X tg it t'):PI X tg it (fun σ H R=>t σ H R∨t' σ H R):=fun pins s σ H R I q=>q.elim (h pins s σ H R I) (h' pins s σ H R I)
noncomputable def qa3 (d:D):M (List D × Src):=fun S=>match d with
 | .ref l=>match S[l]? with
   | some (.lst xs)=>.ok (xs,[(l,.lst xs)]) S
   | _=>.no
 | .lst xs=>.ok (xs,[]) S
 | .tup xs=>.ok (xs,[]) S
 | _=>.no
theorem qrq {K:PySem.W.Frag} {w:Wd} {H:Hp} {src:Src} {a:Addr} {items:List D} (h:∀ w' H' S',Le w H w' H'→qi w' H' S'→qas src S'→∃ vs,H' a=some (.lst vs)∧qf w' H' items vs):Walks (Itl K a) w H src items:=by
 refine⟨fun w' H' S' i l hh hs hi=> ?_,fun w' H' S' l hh hs=> ?_,fun w' H' S' i x H'' l hh hs hi y=> ?_⟩
 · obtain ⟨vs,e,r⟩:=h w' H' S' l hh hs
   have hi2:i < vs.length:=by rw[← r.length];exact hi
   exact⟨vs,vs[i],SqL.of e,List.getElem?_eq_getElem hi2⟩
 · obtain ⟨vs,e,r⟩:=h w' H' S' l hh hs
   exact⟨vs,SqL.of e,by rw[r.length];exact Nat.le_refl _⟩
 · obtain ⟨vs,e,r⟩:=h w' H' S' l hh hs
   obtain ⟨rfl,y⟩:=y
   obtain ⟨d,e1,e2⟩:=r.get' (y vs (SqL.of e))
   exact⟨w',d,e1,Le.refl _ _,hh,e2⟩
theorem qrr {K:PySem.W.Frag} {w:Wd} {H:Hp} {src:Src} {a:Addr} {items:List D} (h:∀ w' H' S',Le w H w' H'→qi w' H' S'→qas src S'→∃ vs,H' a=some (.tup vs)∧qf w' H' items vs):Walks (Itt K a) w H src items:=by
 refine⟨fun w' H' S' i l hh hs hi=> ?_,fun w' H' S' l hh hs=> ?_,fun w' H' S' i x H'' l hh hs hi y=> ?_⟩
 · obtain ⟨vs,e,r⟩:=h w' H' S' l hh hs
   have hi2:i < vs.length:=by rw[← r.length];exact hi
   exact⟨vs,vs[i],SqT.of e,List.getElem?_eq_getElem hi2⟩
 · obtain ⟨vs,e,r⟩:=h w' H' S' l hh hs
   exact⟨vs,SqT.of e,by rw[r.length];exact Nat.le_refl _⟩
 · obtain ⟨vs,e,r⟩:=h w' H' S' l hh hs
   obtain ⟨rfl,y⟩:=y
   obtain ⟨d,e1,e2⟩:=r.get' (y vs (SqT.of e))
   exact⟨w',d,e1,Le.refl _ _,hh,e2⟩
theorem qpc {w:Wd} {H:Hp} {S:Sto} {d:D} {v:V} {items:List D} {src:Src} {S':Sto} (h:qi w H S) (r:Rep w H d v) (e:qa3 d S=.ok (items,src) S') :
   S'=S∧((∃ a vs,v=.ref a∧H a=some (.lst vs)∧∀ w' H' S',Le w H w' H'→qi w' H' S'→qas src S'→∃ vs,H' a=some (.lst vs)∧qf w' H' items vs) ∨
    (∃ a vs,v=.ref a∧H a=some (.tup vs)∧∀ w' H' S',Le w H w' H'→qi w' H' S'→qas src S'→∃ vs,H' a=some (.tup vs)∧qf w' H' items vs)):=by
 unfold qa3 at e
 cases d <;> first | (cases e;done) | skip
 case ref l =>
   dsimp only at e
   cases q:S[l]? with
   | none=>rw[q]at e;cases e
   | some c =>
     rw[q]at e
     cases c <;> cases e
     obtain ⟨a,ea,rfl⟩:=r
     obtain ⟨_,vs,k1,_⟩:=h.cell l a _ ea q
     refine⟨rfl,.inl ⟨a,vs,rfl,k1,fun w' H' S' l' h' s'=> ?_⟩⟩
     obtain ⟨_,vs',k1',k2'⟩:=h'.cell l a _ (l'.at_ ea) (s' (l,.lst items) (by simp))
     exact⟨vs',k1',k2'⟩
 case lst xs =>
   cases e
   obtain ⟨a,vs,rfl,z,k1,k2⟩:=r
   exact⟨rfl,.inl ⟨a,vs,rfl,k1,fun w' H' S' l' _ _=>⟨vs,l'.lst z k1,k2.mono l'⟩⟩⟩
 case tup xs =>
   cases e
   obtain ⟨a,vs,rfl,z,k1,k2⟩:=r
   exact⟨rfl,.inr ⟨a,vs,rfl,k1,fun w' H' S' l' _ _=>⟨vs,l'.tup z k1,k2.mono l'⟩⟩⟩
theorem q4g (he:PE X it (tD E f)):PI X tg it (tI E fun Γ=>M.bind (f Γ) qa3):=by
 refine PI.mono (PI.or (qv3 he) (qzo he)) fun σ H R ⟨w,Γ,S,rel,hold,q⟩=> ?_
 have q:=Wp.bind q
 cases e0:f Γ S with
 | no=>rw[e0]at q;exact False.elim q
 | err x S1=>rw[e0]at q;exact .inl ⟨w,Γ,S,rel,hold,by rw[e0];exact q⟩
 | ok d S1 =>
   rw[e0]at q
   have q:∀ w' H',Le w H w' H'→qi w' H' S1→Wp E w' H' (qa3 d S1) _:=q
   cases e1:qa3 d S1 with
   | no =>
     refine .inl ⟨w,Γ,S,rel,hold,?_⟩
     rw[e0]
     intro w' H' l' h' v rv
     have:=q w' H' l' h'
     rw[e1]at this
     exact False.elim this
   | err x S2 =>
     unfold qa3 at e1
     cases d <;> dsimp only at e1 <;> first | (cases e1;done) | (split at e1 <;> cases e1)
   | ok r S2 =>
     obtain ⟨items,src⟩:=r
     by_cases ht:∃ xs,d=.tup xs
     · refine .inr ⟨w,Γ,S,rel,hold,?_⟩
       rw[e0]
       intro w' H' l' h' v rv
       have q2:=q w' H' l' h'
       rw[e1]at q2
       obtain ⟨rfl,k | k⟩:=qpc h' rv e1
       · obtain ⟨xs,rfl⟩:=ht
         obtain ⟨a,vs,rfl,k1,_⟩:=k
         obtain ⟨a',vs',e2,_,k2,_⟩:=rv
         cases e2
         rw[k1]at k2;cases k2
       · obtain ⟨a,vs,rfl,k1,k2⟩:=k
         exact⟨a,rfl,⟨vs,SqT.of k1⟩,q2 _ _ (Le.refl _ _) h' _ (qrr k2)⟩
     · refine .inl ⟨w,Γ,S,rel,hold,?_⟩
       rw[e0]
       intro w' H' l' h' v rv
       have q2:=q w' H' l' h'
       rw[e1]at q2
       obtain ⟨rfl,k | k⟩:=qpc h' rv e1
       · obtain ⟨a,vs,rfl,k1,k2⟩:=k
         exact⟨a,rfl,⟨vs,SqL.of k1⟩,q2 _ _ (Le.refl _ _) h' _ (qrq k2)⟩
       · exfalso
         obtain ⟨a,vs,rfl,k1,_⟩:=k
         clear q2 q e0
         cases d <;> first | (simp only [Rep]at rv;cases rv;done) | (unfold qa3 at e1;cases e1;done) | skip
         case ref l =>
           unfold qa3 at e1
           dsimp only at e1
           cases q':S2[l]? with
           | none=>rw[q']at e1;cases e1
           | some c =>
             rw[q']at e1
             cases c <;> cases e1
             obtain ⟨a',ea,e2⟩:=rv
             cases e2
             obtain ⟨_,vs',k2,_⟩:=h'.cell l a _ ea q'
             rw[k1]at k2;cases k2
         case lst =>
           obtain ⟨a',vs',e2,_,k2,_⟩:=rv
           cases e2
           rw[k1]at k2;cases k2
         case tup=>exact ht ⟨_,rfl⟩
end
section
variable {X:Cx} {E:XW} {a b c e tg it:Expr} {f g h':Env→M D} {pos p:Pos} {s1 s2:MS} {st:Stmt} {rest:List Stmt} {fi:MI} {fs:Env→M (List D)}
noncomputable def qnb (lo:Int) (n:Nat):List D:=(List.range n).map fun k:Nat=>D.int (lo+k)
noncomputable def qih (i:Int):Bool:=decide (-(2 ^ 62)≤i) && decide (i < 2 ^ 62)
noncomputable def qez (ds:List D):M (List D × Src):=match ds with
 | [.int j]=>if qih j then M.pure (qnb 0 j.toNat,[])else M.fail
 | _=>M.fail
theorem qrs {w:Wd} {H:Hp} {lo:Int} {n:Nat}:Walks (Itr lo n) w H [] (qnb lo n):=by
 have hl:(qnb lo n).length=n:=by simp [qnb]
 refine⟨fun w' H' S' i _ _ _ hi=>by rw[hl]at hi;exact hi,fun w' H' S' _ _ _=>by rw[hl];exact Nat.le_refl _,fun w' H' S' i x H'' l hh hs hi y=> ?_⟩
 obtain ⟨rfl,rfl⟩:=y
 rw[hl]at hi
 exact⟨w',.int (lo+i),by simp [qnb,hi],Le.refl _ _,hh,rfl⟩
theorem q1j (hg:Gl X "range") (hm:X.mg "range"=none) (ha:PA X [a] (tL E fs)) (hs:starEach [a] X.env=[(false,eval a X.env)]):PI X tg (.Call (.Name "range" p) [a] [] pos) (tI E fun Γ=>M.bind (fs Γ) qez):=by
 refine PI.mono (qq5 hg hm ha hs) fun σ H R ⟨w,Γ,S,rel,hold,q⟩=> ?_
 refine qb7 (k:=fun ds _=>qez ds) rel hold q fun ds vs S1 w1 H1 l1 rel1 h1 rv q1=> ?_
 unfold qez at q1
 split at q1
 case h_1 j =>
   obtain ⟨hz,q1⟩:=Wp.iteF q1
   unfold qih at hz
   rw[Bool.and_eq_true]at hz
   obtain ⟨v,rfl,r⟩:=rv.one_
   exact⟨j,by rw[show v=.int j from r],of_decide_eq_true hz.1,of_decide_eq_true hz.2,q1 _ _ (Le.refl _ _) h1 _ qrs⟩
 case h_2=>exact False.elim q1
theorem qt7 {w:Wd} {H:Hp} {S:Sto} {p:Addr} {d d':D} {v v':V} (h:qi w H S) (hp:H p=none) (r:Rep w H d v) (r':Rep w H d' v'):Le w H (w.fix p) (upd H p (.tup [v,v']))∧qi (w.fix p) (upd H p (.tup [v,v'])) S∧Rep (w.fix p) (upd H p (.tup [v,v'])) (.tup [d,d']) (.ref p) :=
 ⟨qcc h hp,qcy h hp,p,[v,v'],rfl,.inl rfl,qj,qf.cons (r.mono (qcc h hp)) (qf.one (r'.mono (qcc h hp)))⟩
noncomputable def qcv:List D→List D→List D
 | x::xs,y::ys=>.tup [x,y]::qcv xs ys
 | _,_=>[]
theorem qlm:∀ {xs ys:List D} {i:Nat} {d d':D},xs[i]? =some d→ys[i]? =some d'→(qcv xs ys)[i]? =some (.tup [d,d'])
 | [],_,_,_,_,h,_=>by simp at h
 | _::_,[],_,_,_,_,h=>by simp at h
 | x::xs,y::ys,0,d,d',h,h'=>by
   simp at h h'
   subst h h'
   rfl
 | x::xs,y::ys,i+1,d,d',h,h'=>by
   rw[qcv]
   simp only [List.getElem?_cons_succ]at h h' ⊢
   exact qlm h h'
theorem qii:∀ (xs ys:List D),(qcv xs ys).length=min xs.length ys.length
 | [],ys=>by simp [qcv]
 | _::_,[]=>by simp [qcv]
 | x::xs,y::ys=>by simp [qcv,qii xs ys,Nat.succ_min_succ]
noncomputable def qgw (ds:List D):M (List D × Src):=match ds with
 | [d,d']=>M.bind (qa3 d) fun r=>M.bind (qa3 d') fun r'=>M.pure (qcv r.1 r'.1,r.2++r'.2)
 | _=>M.fail
theorem qt8 {w:Wd} {H:Hp} {S:Sto} {d:D} {v:V} {items:List D} {src:Src} {S':Sto} {K:PySem.W.Frag} (h:qi w H S) (r:Rep w H d v) (e:qa3 d S=.ok (items,src) S') :
   S'=S∧∃ (bb:Bool) (a:Addr) (vs:List V),v=.ref a∧SqS K bb H a vs∧∀ w' H' S',Le w H w' H'→qi w' H' S'→qas src S'→∃ vs,SqS K bb H' a vs∧qf w' H' items vs:=by
 obtain ⟨rfl,k | k⟩:=qpc h r e
 · obtain ⟨a,vs,e1,e2,k⟩:=k
   exact⟨rfl,true,a,vs,e1,SqL.of e2,fun w' H' S' l h s=>let ⟨vs,e,r⟩:=k w' H' S' l h s;⟨vs,SqL.of e,r⟩⟩
 · obtain ⟨a,vs,e1,e2,k⟩:=k
   exact⟨rfl,false,a,vs,e1,SqT.of e2,fun w' H' S' l h s=>let ⟨vs,e,r⟩:=k w' H' S' l h s;⟨vs,SqT.of e,r⟩⟩
theorem qdv {d:D} {S:Sto} {x:Exn} {S':Sto}:qa3 d S ≠ .err x S':=fun e1=>by
 unfold qa3 at e1
 cases d <;> dsimp only at e1 <;> first | (cases e1;done) | (split at e1 <;> cases e1)
theorem qkn {K:PySem.W.Frag} {w:Wd} {H:Hp} {src src':Src} {b1 b2:Bool} {a a':Addr} {xs ys:List D} (h:∀ w' H' S',Le w H w' H'→qi w' H' S'→qas src S'→∃ vs,SqS K b1 H' a vs∧qf w' H' xs vs)
   (h2:∀ w' H' S',Le w H w' H'→qi w' H' S'→qas src' S'→∃ vs,SqS K b2 H' a' vs∧qf w' H' ys vs):Walks (Itz K b1 b2 a a') w H (src++src') (qcv xs ys):=by
 have s1:∀ {S},qas (src++src') S→qas src S:=fun s p hp=>s p (List.mem_append_left _ hp)
 have s2:∀ {S},qas (src++src') S→qas src' S:=fun s p hp=>s p (List.mem_append_right _ hp)
 refine⟨fun w' H' S' i l hh hs hi=> ?_,fun w' H' S' l hh hs=> ?_,fun w' H' S' i x H'' l hh hs hi y=> ?_⟩
 · obtain ⟨vs,e,r⟩:=h w' H' S' l hh (s1 hs)
   obtain ⟨us,e',r'⟩:=h2 w' H' S' l hh (s2 hs)
   rw[qii,r.length,r'.length]at hi
   exact⟨⟨vs,vs[i]'(by omega),e,List.getElem?_eq_getElem (by omega)⟩,us,us[i]'(by omega),e',List.getElem?_eq_getElem (by omega)⟩
 · obtain ⟨vs,e,r⟩:=h w' H' S' l hh (s1 hs)
   obtain ⟨us,e',r'⟩:=h2 w' H' S' l hh (s2 hs)
   exact⟨vs,us,e,e',by rw[qii,r.length,r'.length];omega⟩
 · obtain ⟨vs,e,r⟩:=h w' H' S' l hh (s1 hs)
   obtain ⟨us,e',r'⟩:=h2 w' H' S' l hh (s2 hs)
   obtain ⟨p,z,z',hp,rfl,rfl,y,y'⟩:=y
   obtain ⟨d,e1,e2⟩:=r.get' (y vs e)
   obtain ⟨d',e1',e2'⟩:=r'.get' (y' us e')
   obtain ⟨k1,k2,k3⟩:=qt7 hh hp e2 e2'
   exact⟨_,_,qlm e1 e1',k1,k2,k3⟩
theorem q4h {elts:List Expr} {k:Nat} {pos':Pos} (hg:Gl X "zip") (hm:X.mg "zip"=none) (ha:PA X [a,b] (tL E fs)) (hs:starEach [a,b] X.env=[(false,eval a X.env),(false,eval b X.env)]) (hs2:starEach [b] X.env=[(false,eval b X.env)]):PI X (.Tuple elts k pos') (.Call (.Name "zip" p) [a,b] [] pos) (tI E fun Γ=>M.bind (fs Γ) qgw):=by
 refine PI.mono (qtg hg hm ha hs hs2) fun σ H R ⟨w,Γ,S,rel,hold,q⟩=> ?_
 refine qb7 (k:=fun ds _=>qgw ds) rel hold q fun ds vs S1 w1 H1 l1 rel1 h1 rv q1=> ?_
 unfold qgw at q1
 split at q1
 case h_2=>exact False.elim q1
 case h_1 d d' =>
   obtain ⟨v,v',rfl,r,r'⟩:=rv.two_
   replace q1:=Wp.bind q1
   cases e1:qa3 d S1 with
   | no=>rw[e1]at q1;exact False.elim q1
   | err x S2=>exact absurd e1 qdv
   | ok rr S2 =>
     rw[e1]at q1
     obtain ⟨items,src⟩:=rr
     obtain ⟨rfl,b1,a1,vs1,rfl,k1,k2⟩:=qt8 (K:=X.K) h1 r e1
     have q2:=Wp.bind (q1 _ _ (Le.refl _ _) h1)
     cases e2:qa3 d' S2 with
     | no=>rw[e2]at q2;exact False.elim q2
     | err x S2=>exact absurd e2 qdv
     | ok rr' S3 =>
       rw[e2]at q2
       obtain ⟨items',src'⟩:=rr'
       obtain ⟨rfl,b2,a2,vs2,rfl,k1',k2'⟩:=qt8 (K:=X.K) h1 r' e2
       exact⟨b1,b2,a1,a2,rfl,⟨vs1,k1⟩,⟨vs2,k1'⟩,q2 _ _ (Le.refl _ _) h1 _ _ (Le.refl _ _) h1 _ (qkn k2 k2')⟩
noncomputable def forL (src:Src) (hd:D→Env→M Env) (body:MS):List D→MS
 | [],Γ=>M.bind (guard src) fun _=>M.pure (.nx,Γ)
 | d::ds,Γ=>M.bind (guard src) fun _=>M.bind (hd d Γ) fun Γ1=>M.bind (body Γ1) fun r=>match r.1 with
   | .nx=>forL src hd body ds r.2
   | .ct=>forL src hd body ds r.2
   | .bk=>M.pure (.nx,r.2)
   | .rt d=>M.pure (.rt d,r.2)
noncomputable def q1k (fi:MI) (hd:D→Env→M Env) (body:MS):MS:=fun Γ=>M.bind (fi Γ) fun r=>forL r.2 hd body r.1 Γ
theorem q4i {T:List Nat} {hd:D→Env→M Env} {body:List Stmt} (hp:PassesOwn (model X.prog X.w) X.A X.env X.xe) (hc:X.calm=true) (hi:PI X tg it (tI E fi)) (hg:PG X tg (tG E T hd)) (hb:PSs X body (tS E s1)) (hs:∀ x,foldedSetIterable it X.env x=pure x) :
   PS X (.For tg it body [] pos) (tS E (q1k fi hd s1)):=by
 refine PS.mono (qzp hp hc hi hg hb hs) fun D σ H ⟨w,Γ,S,rel,hold,q⟩=> ?_
 refine⟨w,Γ,S,rel,hold,(Wp.bind q).mono fun r S1 w1 H1 l1 h1 q1 J wk=> ?_⟩
 obtain ⟨items,src⟩:=r
 refine⟨fun i m σ H=>m=items.length - i∧i≤items.length∧∃ w' Γ' S',Le w1 H1 w' H∧Rel w' H σ Γ'∧qi w' H S'∧Wp E w' H (forL src hd s1 (items.drop i) Γ' S') (qek D),⟨_,rfl,Nat.zero_le _,w1,Γ,S1,Le.refl _ _,rel.mono l1,h1,q1⟩,?_⟩
 rintro i m σ H ⟨rfl,hi,w2,Γ2,S2,l2,rel2,h2,q2⟩
 by_cases hlt:i < items.length
 · have hdr:items.drop i=items[i]::items.drop (i+1):=(List.drop_eq_getElem_cons hlt)
   rw[hdr,forL]at q2
   obtain ⟨so,q2⟩:=qcz q2
   refine .inr ⟨wk.go w2 H S2 i l2 h2 so hlt,fun σ' H'=>∃ w' Γ' S',Le w1 H1 w' H'∧Rel w' H' σ' Γ'∧qi w' H' S'∧Wp E w' H' (forL src hd s1 (items.drop (i+1)) Γ' S') (qek D),fun σ' H' z=>⟨_,by omega,rfl,hlt,z⟩,fun x H' y=> ?_⟩
   obtain ⟨w3,d,e3,l3,h3,r3⟩:=wk.yld w2 H S2 i x H' l2 h2 so hlt y
   have:d=items[i]:=by rw[List.getElem?_eq_getElem hlt]at e3;exact(Option.some.inj e3).symm
   subst this
   have q3:=q2.later l3
   refine⟨w3,items[i],Γ2,S2,rel2.mono l3,h3,r3,(Wp.bind q3).mono fun Γ4 S4 w4 H4 l4 h4 q4 σ4 rel4 _=> ?_⟩
   refine⟨w4,Γ4,S4,rel4,h4,(Wp.bind q4).mono fun r5 S5 w5 H5 l5 h5 q5=> ?_⟩
   obtain ⟨fl,Γ5⟩:=r5
   have ll:=(l2.trans l3).trans (l4.trans l5)
   cases fl with
   | nx=>exact fun σ' rel'=>⟨w5,Γ5,S5,ll,rel',h5,q5⟩
   | ct=>exact fun σ' rel'=>⟨w5,Γ5,S5,ll,rel',h5,q5⟩
   | bk=>exact fun σ' rel'=>(q5 _ _ (Le.refl _ _) h5:qek D (.nx,Γ5) S5 w5 H5) σ' rel'
   | rt d=>exact fun v rv=>(q5 _ _ (Le.refl _ _) h5:qek D (.rt d,Γ5) S5 w5 H5) v rv
 · have e:i=items.length:=by omega
   subst e
   rw[List.drop_length,forL]at q2
   obtain ⟨so,q2⟩:=qcz q2
   exact .inl ⟨wk.stop w2 H S2 l2 h2 so,(q2 _ _ (Le.refl _ _) h2:qek D (.nx,Γ2) S2 w2 H) σ rel2⟩
end
noncomputable def noErr {α:Type} (m:M α):M α:=fun S=>match m S with
 | .err _ _=>.no
 | r=>r
theorem Wp.noErr {α:Type} {E E':XW} {w:Wd} {H:Hp} {m:M α} {S:Sto} {P:α→Sto→Wd→Hp→Prop} (q:Wp E w H (noErr m S) P):Wp E' w H (m S) P:=by
 unfold T3.noErr at q
 cases e:m S with
 | ok a S'=>rw[e]at q;exact q
 | err x S'=>rw[e]at q;exact False.elim q
 | no=>rw[e]at q;exact q
noncomputable def lcA (src:Src) (n:Nat) (hd:D→Env→M Env) (cond:Env→M Bool) (elt:Env→M D) (Γ:Env):List D→List D→M (List D)
 | acc,[]=>M.bind (guard src) fun _=>M.pure acc
 | acc,d::ds=>M.bind (guard src) fun _=>M.bind (hd d (List.replicate n none++Γ)) fun Γ1=>M.bind (cond Γ1) fun b =>
   if b=true then M.bind (elt Γ1) fun y=>lcA src n hd cond elt Γ (acc++[y]) ds else lcA src n hd cond elt Γ acc ds
noncomputable def lcD (new:Bool) (n:Nat) (fi:MI) (hd:D→Env→M Env) (cond:Env→M Bool) (elt:Env→M D) (Γ:Env):M D :=
 M.bind (fi Γ) fun r=>if decide (r.1.length < sizeLine)then M.bind (noErr (lcA r.2 n hd cond elt Γ [] r.1)) fun ds=>alloc new (.lst ds)else M.fail
theorem Rel.cons {w:Wd} {H:Hp} {σ:St} {Γ:Env} (r:Rel w H σ Γ) (n:Nat):Rel w H (List.replicate n none++σ) (List.replicate n none++Γ):=by
 refine⟨by simp [r.len],fun i d e=> ?_⟩
 by_cases hi:i < n
 · rw[List.getElem?_append_left (by simpa using hi)]at e
   simp [hi]at e
 · rw[List.getElem?_append_right (by simp;omega)]at e ⊢
   simp only [List.length_replicate]at e ⊢
   exact r.at_ _ d e
theorem Rel.undrop {w:Wd} {H:Hp} {σ:St} {n:Nat} {σ2:St} {T:List Nat} {Γ2:Env} (r2:Rel w H σ2 Γ2) (hT:∀ i ∈ T,i < n) (hb:But T (List.replicate n none++σ) σ2) (hl:σ2.length=n+σ.length):σ2.drop n=σ:=by
 refine List.ext_getElem? fun i=> ?_
 rw[List.getElem?_drop,hb (n+i) (fun z=>by have:=hT _ z;omega),List.getElem?_append_right (by simp)]
 simp
section
variable {X:Cx} {E E2:XW} {tg it elt:Expr} {ifs:List Expr} {fe:Env→M D} {pos:Pos} {fi:MI} {cond:Env→M Bool} {T:List Nat} {hd:D→Env→M Env} {ts Mk:List Str} {scope:Scope} {new:Bool}
noncomputable def qc0 (hd:D→Env→M Env):Prop:=∀ d Γ S Γ' S',hd d Γ S=.ok Γ' S'→Γ'.length=Γ.length
theorem q4j {w:Wd} {H:Hp} {σ:St} {Γ:Env} {S:Sto} {src:Src} {items:List D} {J:It} {P:List D→Sto→Wd→Hp→Prop} {n:Nat} (hT:∀ i ∈ T,i < n) (hk:qc0 hd) (rel:Rel w H σ Γ) (hold:qi w H S) (wk:Walks J w H src items) (hz:items.length < sizeLine)
   (q:Wp E2 w H (lcA src n hd cond fe Γ [] items S) P) {Fin:List V→Hp→Prop} (hf:∀ ds vs S' w' H',Le w H w' H'→qi w' H' S'→qf w' H' ds vs→P ds S' w' H'→Fin vs H'):LcW J n (tG E2 T hd) (tB E2 cond) (tD E2 fe) σ H Fin:=by
 refine q3k (k:=items.length) (fun i ys H'=>∃ w' S' acc,Le w H w' H'∧qi w' H' S'∧qf w' H' acc ys∧acc.length≤i∧i≤items.length∧Wp E2 w' H' (lcA src n hd cond fe Γ acc (items.drop i) S') P) hz ⟨w,S,[],Le.refl _ _,hold,rfl,Nat.le_refl _,Nat.zero_le _,q⟩ ?_ ?_ ?_ ?_ ?_
 · rintro i ys H' hi ⟨w',S',acc,_,_,r,hl,_⟩
   rw[← r.length];exact hl
 · rintro ys H' ⟨w',S',acc,l,hh,r,hl,_,q⟩
   rw[List.drop_length,lcA]at q
   exact wk.stop w' H' S' l hh (qcz q).1
 · rintro i ys H' hi ⟨w',S',acc,l,hh,r,hl,_,q⟩
   rw[List.drop_eq_getElem_cons hi,lcA]at q
   exact wk.go w' H' S' i l hh (qcz q).1 hi
 · rintro i ys H' hi ⟨w2,S2,acc,l2,h2,r2,hl,_,q2⟩ x H'' y
   rw[List.drop_eq_getElem_cons hi,lcA]at q2
   obtain ⟨so,q2⟩:=qcz q2
   obtain ⟨w3,d,e3,l3,h3,r3⟩:=wk.yld w2 H' S2 i x H'' l2 h2 so hi y
   have:d=items[i]:=by rw[List.getElem?_eq_getElem hi]at e3;exact(Option.some.inj e3).symm
   subst this
   have q3:=Wp.bind (q2.later l3)
   refine⟨w3,items[i],_,S2,(rel.mono (l2.trans l3)).cons n,h3,r3,?_⟩
   cases e4:hd items[i] (List.replicate n none++Γ) S2 with
   | no=>rw[e4]at q3;exact q3
   | err x S4=>rw[e4]at q3;exact q3
   | ok Γ4 S4 =>
     rw[e4]at q3
     have hlen:Γ4.length=n+Γ.length:=by rw[hk _ _ _ _ _ e4];simp
     intro w4 H4 l4 h4 σ4 rel4 b4
     have q4:=q3 w4 H4 l4 h4
     refine⟨rel4.undrop hT b4 (by rw[← rel4.len,hlen,rel.len]),?_⟩
     refine qd8 (k:=fun b Γ1=>if b=true then M.bind (fe Γ1) fun y=>lcA src n hd cond fe Γ (acc++[y]) (items.drop (i+1))else lcA src n hd cond fe Γ acc (items.drop (i+1))) rel4 h4 q4 fun bb S5 w5 H5 l5 rel5 h5 q5=> ?_
     have ll:=(l2.trans l3).trans (l4.trans l5)
     have rr:=r2.mono (l3.trans (l4.trans l5))
     cases bb with
     | true =>
       rw[if_pos rfl]
       refine qh (k:=fun y _=>lcA src n hd cond fe Γ (acc++[y]) (items.drop (i+1))) rel5 h5 q5 fun dy yv S6 w6 H6 l6 rel6 h6 ry q6=> ?_
       exact⟨w6,S6,acc++[dy],ll.trans l6,h6,(rr.mono l6).append (qf.one ry),by simp;omega,hi,q6⟩
     | false =>
       rw[if_neg Bool.false_ne_true]
       exact⟨w5,S5,acc,ll,h5,rr,by omega,hi,q5⟩
 · rintro ys H' ⟨w',S',acc,l,hh,r,hl,_,q⟩
   rw[List.drop_length,lcA]at q
   obtain ⟨_,q⟩:=qcz q
   exact hf acc ys S' w' H' l hh r (q _ _ (Le.refl _ _) hh)
theorem qt9 {σ:St} {H:Hp} {Q:VK} {n:Nat} (hT:∀ i ∈ T,i < n) (hk:qc0 hd) (h:tD E (lcD new n fi hd cond fe) σ H Q):tLC n (tI E fi) (tG E2 T hd) (tB E2 cond) (tD E2 fe) σ H Q:=by
 obtain ⟨w,Γ,S,rel,hold,q⟩:=h
 refine⟨w,Γ,S,rel,hold,(Wp.bind q).mono fun r S1 w1 H1 l1 h1 q1 J wk=> ?_⟩
 obtain ⟨hz,q1⟩:=Wp.iteF q1
 exact q4j hT hk (rel.mono l1) h1 wk (of_decide_eq_true hz) (Wp.noErr (Wp.bind q1)) fun ds vs S' w' H' l' h' rv q' D hD=>qbn h' rv q' hD
theorem q6v (cc:qbz X ts Mk scope) (hc:X.calm=true) (hi:PI X tg it (tI E fi)) (hg:∀ C fp s₀ H₀,PG (cxC X ts Mk scope C fp s₀ H₀) tg (tG E2 T hd)) (hf:∀ C fp s₀ H₀,PF (cxC X ts Mk scope C fp s₀ H₀) ifs (tB E2 cond))
   (he:∀ C fp s₀ H₀,PE (cxC X ts Mk scope C fp s₀ H₀) elt (tD E2 fe)) (hs:∀ x,foldedSetIterable it X.env x=pure x) (hT:∀ i ∈ T,i < ts.length) (hk:qc0 hd):PE X (.ListComp elt [⟨tg,it,ifs,0⟩] scope pos) (tD E (lcD new ts.length fi hd cond fe)) :=
 PE.mono (q3j cc hc hi hg hf he hs) fun σ H Q h=>qt9 hT hk h
theorem qw2 {i:Nat} {x:Str} {pos' spos:Pos} (hN:X.N.Nodup) (hix:X.N[i]? =some x) (hx:Loc X.env.scope x) (cc:qbz X ts Mk scope) (hc:X.calm=true) (hi:PI X tg it (tI E fi)) (hg:∀ C fp s₀ H₀,PG (cxC X ts Mk scope C fp s₀ H₀) tg (tG E2 T hd)) (hf:∀ C fp s₀ H₀,PF (cxC X ts Mk scope C fp s₀ H₀) ifs (tB E2 cond))
   (he:∀ C fp s₀ H₀,PE (cxC X ts Mk scope C fp s₀ H₀) elt (tD E2 fe)) (hs:∀ x,foldedSetIterable it X.env x=pure x) (hsw:swapsWith (.ListComp elt [⟨tg,it,ifs,0⟩] scope pos) (some (.Name x pos')) spos.line X.env=pure true) (hfn:X.fn x=true∨X.env.scope.names.lookup x=some .local) (hT:∀ i ∈ T,i < ts.length) (hk:qc0 hd) :
   PS X (.Assign [.Name x pos'] (.ListComp elt [⟨tg,it,ifs,0⟩] scope pos) spos) (tS E fun Γ=>M.bind (lcD new ts.length fi hd cond fe Γ) fun d=>M.pure (.nx,Γ.set i (some d))):=by
 refine PS.mono (qtc hN hix hx cc hc hi hg hf he hs hsw hfn) fun D σ H ⟨w,Γ,S,rel,hold,q⟩=> ?_
 refine qt9 (new:=new) hT hk (qh (k:=fun d Γ=>M.pure (Fl.nx,Γ.set i (some d))) rel hold q fun dx x S1 w1 H1 l1 rel1 h1 rx q1=> ?_)
 exact(q1 _ _ (Le.refl _ _) h1:qek D (.nx,_) S1 w1 H1) _ (rel1.set rx)
theorem q4k:PF X [] (tB E fun _=>M.pure true):=fun pins s σ H Q I ⟨w,Γ,S,rel,hold,q⟩=>q0d pins s σ H Q I (q _ _ (Le.refl _ _) hold)
theorem q4l {c:Expr} (h:PT X c (tB E cond)):PF X [c] (tB E cond):=q0e h
end
theorem qrt (i:Nat):qc0 (q1e i):=fun d Γ S Γ' S' e=>by cases e;simp
end T3
namespace L2
open PySem PySem.Spec PyProof.Rows
end L2
namespace T3
open PySem PySem.Spec PyProof.Rows L2
noncomputable def xw (E':XK):XW:=fun x _ H=>∀ dx vs,H dx=some (.xd (x.fs.zip vs))→(∃ w,qf w H x.xs vs)→E' (.ref x.C) (some dx) H
noncomputable abbrev Fd:=List D→M D
noncomputable def spT (n:Nat) (F:Fd):Sp:=fun vs H Q E'=>∃ w ds S,qf w H ds vs∧qi w H S∧ds.length=n∧Wp (xw E') w H (F ds S) (PV Q)
structure FnT (CX:CXT) (P:Program) (w:World) (K:PySem.W.Frag) (mg:Str→Option Value) (base:Heap) (x:Str) (n k:Nat) (F:Fd):Prop where
 ex:∃ (f:Addr) (fd:FuncData) (ps:List Str),qay P w K mg base CX k f fd ps (spT n F)∧mg x=some (.ref f)∧PySem.W.keepIn K (.ref f)=true∧Binds K fd ps []
noncomputable def qaz (n:Nat) (F:Fd) (ds:List D):M D:=if ds.length=n then F ds else M.fail
section
variable {X:Cx} {CX:CXT} {E':XK} {x:Str} {n k k':Nat} {F:Fd} {p pos:Pos} {e:Expr} {es:List Expr} {fs:Env→M (List D)}
theorem q1l (G:FnT CX X.prog X.w X.K X.mg X.base x n k F) (hr:qaw k' X.A) (hk:k≤k') (hg:Gl X x) (hx:Passes CX X E') (ha:PA X (e::es) (tL (xw E') fs)) (hdb:(x==("__debug__":Str))=false)
   (he:starEach (e::es) X.env=(false,eval e X.env)::starEach es X.env) (hpl:(backTo pos (starEach es X.env)).any (·.1)=false):PE X (.Call (.Name x p) (e::es) [] pos) (tD (xw E') fun Γ=>M.bind (fs Γ) (qaz n F)):=by
 obtain ⟨f,fd,ps,FO,hm,hkp,hb⟩:=G.ex
 refine PE.mono (qqa FO (hr.mono hk) hg hm hkp hb .nil hx ha hdb he hpl) fun σ H Q ⟨w,Γ,S,rel,hold,q⟩=> ?_
 refine qb7 (k:=fun ds _=>qaz n F ds) rel hold q fun ds vs S1 w1 H1 l1 rel1 h1 rv q1=> ?_
 unfold qaz at q1
 by_cases hn:ds.length=n
 · rw[if_pos hn]at q1
   exact⟨w1,ds,S1,by rw[List.append_nil];exact rv,h1,hn,q1⟩
 · rw[if_neg hn]at q1;exact False.elim q1
theorem qw3 (G:FnT CX X.prog X.w X.K X.mg X.base x 0 k F) (hr:qaw k' X.A) (hk:k≤k') (hg:Gl X x) (hx:Passes CX X E') (hdb:(x==("__debug__":Str))=false):PE X (.Call (.Name x p) [] [] pos) (tD (xw E') fun _=>F []):=by
 obtain ⟨f,fd,ps,FO,hm,hkp,hb⟩:=G.ex
 refine PE.mono (qsz FO (hr.mono hk) hg hm hkp hb .nil hx hdb) fun σ H Q ⟨w,Γ,S,rel,hold,q⟩=> ?_
 exact⟨w,[],S,rfl,hold,rfl,q⟩
end
noncomputable def qcj (body:MS) (m:Nat) (ds:List D):M D:=fun S=>match body (ds.map some++List.replicate m none) S with
 | .ok (.rt d,_) S'=>.ok d S'
 | .ok (.nx,_) S'=>.ok .non S'
 | .ok _ _=>.no
 | .err x S'=>.err x S'
 | .no=>.no
section
variable {P:Program} {w:World} {K:PySem.W.Frag} {mg:Str→Option Value} {base:Heap}
theorem Rel.start {w:Wd} {H:Hp} {ds:List D} {vs:List V} {m:Nat} (r:qf w H ds vs):Rel w H (vs.map some++List.replicate m none) (ds.map some++List.replicate m none):=by
 refine⟨by simp [r.length],fun i d e=> ?_⟩
 by_cases hi:i < ds.length
 · rw[List.getElem?_append_left (by simpa using hi),List.getElem?_map]at e
   have e':ds[i]? =some d:=by
     cases q:ds[i]? with
     | none=>rw[q]at e;cases e
     | some d'=>rw[q]at e;simp at e;rw[e]
   obtain ⟨v,h1,h2⟩:=r.get e'
   refine⟨v,?_,h2⟩
   rw[List.getElem?_append_left (by simp;rw[← r.length];exact hi),List.getElem?_map,h1]
   rfl
 · rw[List.getElem?_append_right (by simp;omega)]at e
   simp only [List.length_map]at e
   rw[List.getElem?_replicate]at e
   split at e <;> cases e
theorem q1m {E:XW} {w:Wd} {H:Hp} {S:Sto} {body:MS} {m:Nat} {ds:List D} {Q:VK} (q:Wp E w H (qcj body m ds S) (PV Q)):Wp E w H (body (ds.map some++List.replicate m none) S) (qek { nx:=fun _ H'=>Q .non H',rt:=Q }):=by
 unfold qcj at q
 cases e:body (ds.map some++List.replicate m none) S with
 | no=>rw[e]at q;exact q
 | err x S'=>rw[e]at q;exact q
 | ok r S' =>
   rw[e]at q
   obtain ⟨fl,Γ⟩:=r
   cases fl with
   | nx=>exact fun w' H' l h σ _=>q w' H' l h .non rfl
   | rt d=>exact fun w' H' l h v rv=>q w' H' l h v rv
   | bk=>exact False.elim q
   | ct=>exact False.elim q
theorem q4m {x qual:Str} {st:Stmt} {f:Addr} {fd:FuncData} {N ps:List Str} {k:Nat} {body:MS} (F:Fun K x qual st f fd) (S:qan N ps (qb st))
   (hb:∀ (cdv:Value) (A:Around) (outer:List PySem.Env) (s:Shared) (H:Hp) (E:XK),qaw k (A.deeper (envOfC qual (qb st) s.heap.objs.size f cdv))→PSs (qa8 CX0 P w K mg base N qual (qb st) f cdv A outer s H E).nox (qq st) (tS (xw E) body)) :
   qay P w K mg base CX0 (k+1) f fd ps (spT ps.length (qcj body (N.length - ps.length))):=by
 refine F.ok S (fun vs H Q E h=> ?_) (fun cdv A outer s H vs Q E hr h=> ?_)
 · obtain ⟨w,ds,S,r,_,e,_⟩:=h
   rw[← r.length];exact e
 · obtain ⟨w,ds,S,r,hold,e,q⟩:=h
   refine⟨_,hb cdv A outer s H E hr,w,_,S,?_,hold,q1m q⟩
   have:=Rel.start (m:=N.length - ps.length) r
   unfold L2.start
   rw[← r.length,e]
   exact this
end
mutual
noncomputable def frz:Nat→D→Sto→Option (D × Sto)
 | 0,d,S=>match d with
   | .ref _=>none
   | d=>some (d,S)
 | n + 1,d,S=>match d with
   | .ref l=>match S[l]? with
     | some (.lst xs)=>match frzs n xs S with
       | some (ys,S')=>some (.lst ys,S'.set l .gone)
       | none=>none
     | some (.dct ks xs)=>match frzs n xs S with
       | some (ys,S')=>some (.dct ks ys,S'.set l .gone)
       | none=>none
     | some (.obj C fs xs)=>match frzs n xs S with
       | some (ys,S')=>some (.obj C fs ys,S'.set l .gone)
       | none=>none
     | _=>none
   | d=>some (d,S)
noncomputable def frzs:Nat→List D→Sto→Option (List D × Sto)
 | _,[],S=>some ([],S)
 | n,d::ds,S=>match frz n d S with
   | some (e,S')=>match frzs n ds S' with
     | some (es,S'')=>some (e::es,S'')
     | none=>none
   | none=>none
end
noncomputable def qpd (d:D):M D:=fun S=>match frz 3 d S with
 | some (e,S')=>.ok e S'
 | none=>.no
theorem qhn {n:Nat} {H:Hp} (hf:∀ {d e:D} {S S':Sto} {w:Wd} {v:V},frz n d S=some (e,S')→qi w H S→Rep w H d v→∃ w',Le w H w' H∧qi w' H S'∧Rep w' H e v) :
   ∀ {ds es:List D} {S S':Sto} {w:Wd} {vs:List V},frzs n ds S=some (es,S')→qi w H S→qf w H ds vs→∃ w',Le w H w' H∧qi w' H S'∧qf w' H es vs
 | [],es,S,S',w,vs,e,h,r=>by
   rw[frzs]at e
   cases e
   exact⟨w,Le.refl _ _,h,r⟩
 | d ::ds,es,S,S',w,vs,e,h,⟨v,u,ev,r,t⟩=>by
   rw[frzs]at e
   cases e1:frz n d S with
   | none=>rw[e1]at e;cases e
   | some p =>
     obtain ⟨d1,S1⟩:=p
     rw[e1]at e
     dsimp only at e
     cases e2:frzs n ds S1 with
     | none=>rw[e2]at e;cases e
     | some p =>
       obtain ⟨ds1,S2⟩:=p
       rw[e2]at e
       cases e
       obtain ⟨w1,l1,h1,r1⟩:=hf e1 h r
       obtain ⟨w2,l2,h2,r2⟩:=qhn hf e2 h1 (t.mono l1)
       exact⟨w2,l1.trans l2,h2,v,u,ev,r1.mono l2,r2⟩
theorem qln {H:Hp}:∀ {n:Nat} {d e:D} {S S':Sto} {w:Wd} {v:V},frz n d S=some (e,S')→qi w H S→Rep w H d v→∃ w',Le w H w' H∧qi w' H S'∧Rep w' H e v
 | 0,d,e,S,S',w,v,q,h,r=>by
   cases d <;> simp only [frz]at q <;> first | (cases q;done) | (cases q;exact⟨w,Le.refl _ _,h,r⟩)
 | n + 1,d,e,S,S',w,v,q,h,r=>by
   cases d <;> simp only [frz]at q <;> first | (cases q;exact⟨w,Le.refl _ _,h,r⟩) | skip
   case ref l =>
     obtain ⟨a,ea,rfl⟩:=r
     cases e0:S[l]? with
     | none=>rw[e0]at q;cases q
     | some c =>
       rw[e0]at q
       have ce:=h.cell l a c ea e0
       cases c with
       | gone=>cases q
       | lst xs =>
         dsimp only at q
         cases e1:frzs n xs S with
         | none=>rw[e1]at q;cases q
         | some p =>
           obtain ⟨ys,S1⟩:=p
           rw[e1]at q
           cases q
           obtain ⟨_,vs,k1,k2⟩:=ce
           obtain ⟨w1,l1,h1,r1⟩:=qhn (fun {d e S S' w v} q h r=>qln (n:=n) q h r) e1 h k2
           exact⟨w1.fix a,l1.trans (qcd w1 H a),qex h1 (l1.at_ ea),a,vs,rfl,.inl rfl,k1,r1.mono (qcd w1 H a)⟩
       | dct ks xs =>
         dsimp only at q
         cases e1:frzs n xs S with
         | none=>rw[e1]at q;cases q
         | some p =>
           obtain ⟨ys,S1⟩:=p
           rw[e1]at q
           cases q
           obtain ⟨_,vs,k1,k3,k2⟩:=ce
           obtain ⟨w1,l1,h1,r1⟩:=qhn (fun {d e S S' w v} q h r=>qln (n:=n) q h r) e1 h k2
           exact⟨w1.fix a,l1.trans (qcd w1 H a),qex h1 (l1.at_ ea),a,vs,rfl,.inl rfl,.inl k1,by rw[k3,k2.length,← r1.length],r1.mono (qcd w1 H a)⟩
       | obj C fs xs =>
         dsimp only at q
         cases e1:frzs n xs S with
         | none=>rw[e1]at q;cases q
         | some p =>
           obtain ⟨ys,S1⟩:=p
           rw[e1]at q
           cases q
           obtain ⟨_,dx,vs,k1,k3,k2⟩:=ce
           obtain ⟨w1,l1,h1,r1⟩:=qhn (fun {d e S S' w v} q h r=>qln (n:=n) q h r) e1 h k2
           exact⟨w1.fix a,l1.trans (qcd w1 H a),qex h1 (l1.at_ ea),a,dx,vs,rfl,.inl rfl,k1,by rw[k3,k2.length,← r1.length],r1.mono (qcd w1 H a)⟩
theorem q4n {X:Cx} {E:XW} {e:Expr} {f:Env→M D} (h:PE X e (tD E f)):PE X e (tD E fun Γ=>M.bind (f Γ) qpd):=by
 refine PE.mono h fun σ H Q ⟨w,Γ,S,rel,hold,q⟩=> ?_
 refine qh (k:=fun d _=>qpd d) rel hold q fun dx x S1 w1 H1 l1 rel1 h1 rx q1=> ?_
 unfold qpd at q1
 cases e1:frz 3 dx S1 with
 | none=>rw[e1]at q1;exact False.elim q1
 | some p =>
   obtain ⟨d1,S2⟩:=p
   rw[e1]at q1
   obtain ⟨w2,l2,h2,r2⟩:=qln e1 h1 rx
   exact q1 w2 H1 l2 h2 x r2
noncomputable def isL (d:D):Bool:=match d with
 | .lst _=>true
 | _=>false
noncomputable def isS (d:D):Bool:=match d with
 | .str _=>true
 | _=>false
noncomputable def mtD (isT:D→Bool) (f:Env→M D) (fs:Env→M (List D)) (k:D→List D→M D) (Γ:Env):M D:=M.bind (f Γ) fun o S=>(if isT (look o S)then M.bind (fs Γ) (k o)else M.fail) S
noncomputable def MtT (X:Cx) (id:String) (k:D→List D→M D):Prop:=∃ r:V→List V→Hp→VK→Prop,MtM X id r∧∀ (E:XW) w H S o ds x vs Q,qi w H S→Rep w H o x→qf w H ds vs→Wp E w H (k o ds S) (PV Q)→r x vs H Q
section
variable {X:Cx} {E:XW} {T id:String} {name:Str} {o e:Expr} {es:List Expr} {f:Env→M D} {fs:Env→M (List D)} {k:D→List D→M D} {apos cpos:Pos} {isT:D→Bool}
theorem q1n (pa:PlainAttrs T) (slot:Slot T name id) (hty:typeOf (.builtin id)=pure (.type "method_descriptor")) (hm:MtT X id k) (hT:∀ w H S d v,qi w H S→Rep w H d v→isT (look d S)=true→tyV X.K T v H) (ho:PE X o (tD E f)) (ha:PA X (e::es) (tL E fs))
   (hbase:attributeBase o name X.env (eval o X.env)=eval o X.env)
   (hfew:((backTo cpos (starEach (e::es) X.env)).all (fun x=> !x.1) && (backToKw cpos (keywordEach [] X.env)).all (fun x=>x.1.isSome) && decide ((e::es).length+([]:List Keyword).length+(if ([]:List Keyword).isEmpty then 0 else 1) < 30))=true)
   (hline:(apos.endLine==cpos.line)=true) (hs:starEach (e::es) X.env=(false,eval e X.env)::starEach es X.env) (hplain:(backTo cpos (starEach es X.env)).any (·.1)=false) :
   PE X (.Call (.Attribute o name apos) (e::es) [] cpos) (tD E (mtD isT f fs k)):=by
 obtain ⟨r,hmt,hk⟩:=hm
 refine PE.mono (q3e pa slot hty hmt ho ha hbase hfew hline hs hplain) fun σ H Q ⟨w,Γ,S,rel,hold,q⟩=> ?_
 refine qh (k:=fun o Γ S=>(if isT (look o S)then M.bind (fs Γ) (k o)else M.fail) S) rel hold q fun dx x S1 w1 H1 l1 rel1 h1 rx q1=> ?_
 obtain ⟨ht,q1⟩:=Wp.iteF q1
 exact⟨hT w1 H1 S1 dx x h1 rx ht,qb7 (k:=fun ds _=>k dx ds) rel1 h1 q1 fun ds vs S2 w2 H2 l2 rel2 h2 rv q2=>hk E w2 H2 S2 dx ds x vs Q h2 (rx.mono l2) rv q2⟩
theorem qua (pa:PlainAttrs T) (slot:Slot T name id) (hty:typeOf (.builtin id)=pure (.type "method_descriptor")) (hm:MtT X id k) (hT:∀ w H S d v,qi w H S→Rep w H d v→isT (look d S)=true→tyV X.K T v H) (ho:PE X o (tD E f))
   (hbase:attributeBase o name X.env (eval o X.env)=eval o X.env) (hline:(apos.endLine==cpos.line)=true) :
   PE X (.Call (.Attribute o name apos) [] [] cpos) (tD E (mtD isT f (fun _=>M.pure []) k)):=by
 obtain ⟨r,hmt,hk⟩:=hm
 refine PE.mono (qz7 pa slot hty hmt ho hbase hline) fun σ H Q ⟨w,Γ,S,rel,hold,q⟩=> ?_
 refine qh (k:=fun o Γ S=>(if isT (look o S)then M.bind (M.pure []) (k o)else M.fail) S) rel hold q fun dx x S1 w1 H1 l1 rel1 h1 rx q1=> ?_
 obtain ⟨ht,q1⟩:=Wp.iteF q1
 exact⟨hT w1 H1 S1 dx x h1 rx ht,hk E w1 H1 S1 dx [] x [] Q h1 rx rfl q1⟩
theorem q4o (w:Wd) (H:Hp) (S:Sto) (d:D) (v:V) (h:qi w H S) (r:Rep w H d v) (e:isL (look d S)=true):tyV X.K "list" v H:=by
 cases e1:look d S <;> rw[e1]at e <;> first | (cases e;done) | skip
 obtain ⟨p,vs,rfl,hp,_⟩:=qt h r e1
 exact .inl ⟨rfl,vs,SqL.of hp⟩
theorem qw4 (w:Wd) (H:Hp) (S:Sto) (d:D) (v:V) (h:qi w H S) (r:Rep w H d v) (e:isS (look d S)=true):tyV X.K "str" v H:=by
 cases e1:look d S <;> rw[e1]at e <;> first | (cases e;done) | skip
 rw[qa1 r e1]
 rfl
noncomputable def qf9 (o:D) (g:List D→Option (D × List D)):M D:=fun S=>match o with
 | .ref l=>match S[l]? with
   | some (.lst xs)=>match g xs with
     | some (d,ys)=>.ok d (S.set l (.lst ys))
     | none=>.no
   | _=>.no
 | _=>.no
theorem qru {w:Wd} {H:Hp} {S:Sto} {o:D} {x:V} {g:List D→Option (D × List D)} {Q:VK} (h:qi w H S) (r:Rep w H o x) (q:Wp E w H (qf9 o g S) (PV Q)) :
   ∃ a xs vs d ys,x=.ref a∧H a=some (.lst vs)∧qf w H xs vs∧g xs=some (d,ys)∧∀ us,qf w H ys us→∀ v,Rep w H d v→Q v (upd H a (.lst us)):=by
 unfold qf9 at q
 cases o <;> first | exact False.elim q | skip
 rename_i l
 dsimp only at q
 obtain ⟨a,ea,rfl⟩:=r
 cases e:S[l]? with
 | none=>rw[e]at q;exact False.elim q
 | some c =>
   rw[e]at q
   have ce:=h.cell l a c ea e
   cases c <;> first | exact False.elim q | skip
   rename_i xs
   dsimp only at q
   cases e1:g xs with
   | none=>rw[e1]at q;exact False.elim q
   | some p =>
     obtain ⟨d,ys⟩:=p
     rw[e1]at q
     obtain ⟨nz,vs,ha,hvs⟩:=ce
     exact⟨a,xs,vs,d,ys,rfl,ha,hvs,e1,fun us hu v rv=>q _ _ (qbb nz) (qew h ea nz ⟨nz,us,qj,hu.mono (qbb nz)⟩) v (rv.mono (qbb nz))⟩
noncomputable def qlo (o:D) (ds:List D):M D:=match ds with
 | [d]=>qf9 o fun xs=>if decide (xs.length < sizeLine)then some (.non,xs++[d])else none
 | _=>M.fail
theorem qij:MtT X "list.append" qlo:=by
 refine⟨_,qrd,fun E w H S o ds x vs Q h r rv q=> ?_⟩
 unfold qlo at q
 split at q
 case h_2=>exact False.elim q
 case h_1 d =>
   obtain ⟨v,rfl,rd⟩:=rv.one_
   obtain ⟨a,xs,us,d',ys,rfl,ha,hus,e,k⟩:=qru h r q
   split at e
   · rename_i hz
     cases e
     exact⟨a,us,v,rfl,rfl,ha,by rw[← hus.length];exact of_decide_eq_true hz,k _ (hus.append (qf.one rd)) _ rfl⟩
   · cases e
noncomputable def joinM (o:D) (ds:List D):M D:=match o,ds with
 | .str z,[d]=>fun S=>match look d S with
   | .lst xs=>match strsOf xs with
     | some ys=>(if decide ((ys.map (·.length)).sum+ys.length * z.length≤16777216)then M.pure (.str (PySem.Txt.join z ys))else M.fail) S
     | none=>.no
   | _=>.no
 | _,_=>M.fail
theorem qnc:MtT X "str.join" joinM:=by
 refine⟨_,qwt,fun E w H S o ds x vs Q h r rv q=> ?_⟩
 unfold joinM at q
 split at q
 case h_2=>exact False.elim q
 case h_1 z d =>
   obtain ⟨v,rfl,rd⟩:=rv.one_
   cases e1:look d S <;> rw[e1]at q <;> first | exact False.elim q | skip
   rename_i xs
   dsimp only at q
   cases e2:strsOf xs with
   | none=>rw[e2]at q;exact False.elim q
   | some ys =>
     rw[e2]at q
     obtain ⟨hz,q⟩:=Wp.iteF q
     obtain ⟨p,us,rfl,hp,hus⟩:=qt h rd e1
     exact⟨z,p,ys,r,rfl,by rw[← qig e2 hus];exact SqL.of hp,of_decide_eq_true hz,now h (d:=.str _) rfl q⟩
end
noncomputable def notStar:Expr→Bool
 | .Starred _ _=>false
 | _=>true
noncomputable def qc8:Expr→Bool
 | .Set _ _ _=>false
 | _=>true
noncomputable def qcf:Expr→Bool
 | .Slice _ _ _ _=>false
 | _=>true
noncomputable def plainT:Expr→Bool
 | .UnaryOp _ _ _=>false
 | .BoolOp _ _ _=>false
 | .IfExp _ _ _ _=>false
 | .Compare _ _ _ _=>false
 | _=>true
noncomputable def qfh:Expr→Bool
 | .Call (.Name _ _) _ _ _=>false
 | _=>true
noncomputable def qd9:Expr→Bool
 | .ListComp _ _ _ _=>false
 | .SetComp _ _ _ _=>false
 | .DictComp _ _ _ _ _=>false
 | _=>true
noncomputable def qlp:Expr→Bool
 | .Tuple _ _ _=>false
 | .List _ _=>false
 | _=>true
theorem qac {e:Expr} {es:List Expr} {env:PySem.Env} (h:notStar e=true):starEach (e::es) env=(false,eval e env)::starEach es env:=by
 cases e <;> first | rfl | cases h
theorem qik:∀ {es:List Expr} {env:PySem.Env},es.all notStar=true→(starEach es env).all (fun x=> !x.1)=true
 | [],_,_=>rfl
 | e::es,env,h=>by
   rw[List.all_cons,Bool.and_eq_true]at h
   rw[qac h.1,List.all_cons,qik h.2]
   rfl
theorem qnd {pos:Pos} {l:List (Bool × Sem Value)} (h:l.all (fun x=> !x.1)=true):(backTo pos l).all (fun x=> !x.1)=true:=by
 unfold backTo
 rw[List.all_map]
 exact h
theorem qdw {pos:Pos} {es:List Expr} {env:PySem.Env} (h:es.all notStar=true):(backTo pos (starEach es env)).any (·.1)=false:=by
 have:=qnd (pos:=pos) (qik (env:=env) h)
 rw[List.any_eq_false]
 intro x hx
 have:=List.all_eq_true.mp this x hx
 simpa using this
theorem qub {cpos:Pos} {e:Expr} {es:List Expr} {env:PySem.Env} (h:(e::es).all notStar=true) (hl:(e::es).length < 30) :
   ((backTo cpos (starEach (e::es) env)).all (fun x=> !x.1) && (backToKw cpos (keywordEach [] env)).all (fun x=>x.1.isSome) && decide ((e::es).length+([]:List Keyword).length+(if ([]:List Keyword).isEmpty then 0 else 1) < 30))=true:=by
 rw[qnd (qik h)]
 simp only [keywordEach,backToKw,List.map_nil,List.all_nil,Bool.and_true,Bool.true_and,List.length_nil,List.isEmpty_nil,if_true,Nat.add_zero]
 exact decide_eq_true hl
theorem qil {op:CmpOp} {b:Expr} (h:qc8 b=true):behindInMarks op b=false:=by
 cases b <;> first | rfl | cases h
theorem qko {op op':CmpOp} {b c:Expr} (h:qc8 c=true):lastMarks [op,op'] [b,c]=false:=by
 show behindInMarks op' c=false
 exact qil h
theorem qne {b:Expr} (h:qcf b=true):qk6 b:=by
 intro o i
 cases b <;> first | rfl | cases h
theorem qw5 {a:Expr} {env:PySem.Env} (h:plainT a=true):∀ whole,isTrue a env whole=(do let v ← whole;standAt a.pos;holding [v] (truthy v)):=by
 intro whole
 cases a <;> first | rfl | cases h
theorem qc9 {o:Expr} {name:Str} {env:PySem.Env} (h:qfh o=true):attributeBase o name env (eval o env)=eval o env:=by
 unfold attributeBase
 cases o <;> first | rfl | skip
 rename_i fn args kw pos
 cases fn <;> first | rfl | cases h
theorem qga {it:Expr} {env:PySem.Env} (h:qc8 it=true):∀ x,foldedSetIterable it env x=pure x:=by
 intro x
 unfold foldedSetIterable
 cases it <;> first | rfl | cases h
theorem qdx {e:Expr} {t:Option Expr} {n:Nat} {env:PySem.Env} (h:qd9 e=true):swapsWith e t n env=pure false:=by
 unfold swapsWith
 cases e <;> first | rfl | cases h
theorem qw6 {e t:Expr} {n:Nat} {env:PySem.Env} (h:qd9 e=true):swapsWithSole [t] e n env=pure false:=qdx h
theorem qrv {t e:Expr} {env:PySem.Env} (h:(qlp t || qlp e)=true):swappedStores [t] e env=pure none:=by
 unfold swappedStores
 cases t <;> first | rfl | (cases e <;> first | rfl | cases h)
theorem qgb {e:Expr} {es:List Expr} {env:PySem.Env} (h:notStar e=true):assignEach (e::es) env=(false,assign e env)::assignEach es env:=by
 cases e <;> first | rfl | cases h
theorem qkp:∀ {es:List Expr} {env:PySem.Env},(assignEach es env).length=es.length
 | [],_=>rfl
 | e::es,env=>by
   have:=qkp (es:=es) (env:=env)
   cases e <;> simp [assignEach,this]
theorem qnf:∀ {es:List Expr} {env:PySem.Env},es.all notStar=true→(assignEach es env).findIdx? (·.1)=none
 | [],_,_=>rfl
 | e::es,env,h=>by
   rw[List.all_cons,Bool.and_eq_true]at h
   rw[qgb h.1,List.findIdx?_cons,qnf h.2]
   rfl
theorem qw7 {o i:Expr} {pos:Pos} {env:PySem.Env} (h:qcf i=true):∀ v,assign (.Subscript o i pos) env v=(do
     let ov ← holding [v] (eval o env)
     let iv ← holding [v,ov] (eval i env)
     standAt pos
     holding [v,ov,iv] (setItem ov iv v)
     release [v,ov,iv] []):=by
 intro v
 cases i <;> first | rfl | cases h
theorem q1o {i:Expr} (h:qcf i=true):∀ ov iv new,augStore i ov iv new=(do holding [new,ov,iv] (setItem ov iv new);release [new,ov,iv] [];pure .next):=by
 intro ov iv new
 cases i <;> first | rfl | cases h
noncomputable def swB (sc:Scope) (scope:Scope) (vl tl:Nat) (x:Str):Bool :=
 (if sc.kind.isAnnotationScope then ScopeKind.function else sc.kind)==.function && sc.names.lookup x==some .local && tl==vl && !(scope.names.any fun (n,k)=>n==x && (k==.local || k==.cell))
theorem quc {elt:Expr} {gens:List Comprehension} {scope:Scope} {pos p:Pos} {x:Str} {n:Nat} {env:PySem.Env}:swapsWith (.ListComp elt gens scope pos) (some (.Name x p)) n env=pure (swB env.scope scope pos.line p.line x):=rfl
theorem qw8 {k v:Expr} {gens:List Comprehension} {scope:Scope} {pos p:Pos} {x:Str} {n:Nat} {env:PySem.Env}:swapsWith (.DictComp k v gens scope pos) (some (.Name x p)) n env=pure (swB env.scope scope pos.line p.line x):=rfl
end T3
namespace L2
open PySem PySem.Spec PyProof.Rows
end L2
namespace T3
open PySem PySem.Spec PyProof.Rows L2
noncomputable def qud:Key→D
 | .inl i=>.int i
 | .inr x=>.str x
end T3
namespace L2
open PySem PySem.Spec PyProof.Rows
end L2
namespace T3
open PySem PySem.Spec PyProof.Rows L2
end T3
namespace L2
open PySem PySem.Spec PyProof.Rows
noncomputable def tabAt (tab:List (Str × Addr)) (z:Str):Option Addr:=(tab.find? fun p=>decide (p.1=z)).map (·.2)
structure qrw (P:Program) (w:World) (K:PySem.W.Frag) (a:Addr) (tab:List (Str × Addr)):Prop where
 sys:(a==sysModules)=false
 at_:∀ h:Heap,K.In h→h.DictOf (qx P w) a (tab.map fun p=>(Sum.inr p.1,Value.ref p.2))
noncomputable def que (K:PySem.W.Frag) (a:Addr) (ks:List Str):Prop:=∃ (o:Obj) (its:Array Value) (n:Nat),K.lookup a=some o∧o.cls=.type "tuple"∧o.data=.seq its n∧its.size≤sizeLine∧Vals (ks.map V.str) its.toList
theorem qqr {tab:List (Str × Addr)} {z:Str}:valueAt (tab.map fun p=>((Sum.inr p.1:Key),Value.ref p.2)) (Sum.inr z)=(tabAt tab z).map Value.ref:=by
 unfold valueAt tabAt
 rw[List.find?_map,Option.map_map,Option.map_map]
 have:((fun kv:Key × Value=>decide (kv.1=Sum.inr z)) ∘ fun p:Str × Addr=>((Sum.inr p.1:Key),Value.ref p.2))=fun p:Str × Addr=>decide (p.1=z):=by
   funext p
   show decide ((Sum.inr p.1:Key)=Sum.inr z)=decide (p.1=z)
   exact qso _ _
 rw[this]
 rfl
section
variable {X:Cx} {x:Str} {a:Addr} {tab:List (Str × Addr)} {i:Expr} {ty:TE} {p pos:Pos}
theorem qw9 (hg:Gl X x) (hm:X.mg x=some (.ref a)) (T:qrw X.prog X.w X.K a tab) (hi:PE X i ty) (hs:q0f i) (hdb:(x==("__debug__":Str))=false) :
   PE X (.Subscript (.Name x p) i pos) (fun σ H Q=>ty σ H fun y H1=>∃ z b,y=.str z∧tabAt tab z=some b∧Q (.ref b) H1):=by
 intro pins s σ H Q I h
 refine qwk PySem.F.slot_dict_getitem.lookup hs (qbs I hg hm (thn (hi pins s σ H _ I h) fun iv s2 ⟨y,H2,I2,ry,z,b,ey,et,q2⟩=> ?_) hdb)
 subst ey
 have dd:=T.at_ _ I2.kIn
 exact⟨dd.typeIs,wpAny_getItem_of (qfc (k:=Sum.inr z) ry) dd.mapOf (by rw[qqr,et];rfl) ⟨.ref b,H2,I2.tok _,rfl,q2⟩⟩
theorem qxa (hg:Gl X x) (hm:X.mg x=some (.ref a)) (T:qrw X.prog X.w X.K a tab) (hi:PE X i ty) (hdb:(x==("__debug__":Str))=false) :
   PC X .NotIn i (.Name x p) (fun σ H Q=>ty σ H fun y H1=>∃ z,y=.str z∧Q (.bl (!(tabAt tab z).isSome)) H1):=by
 intro pins s σ H Q I h
 refine thn (hi pins s σ H _ I h) fun iv s2 ⟨y,H2,I2,ry,z,ey,q2⟩=>qbs I2 hg hm ?_ hdb
 subst ey
 have dd:=T.at_ _ I2.kIn
 refine wpAny_notIn_of (qfc (k:=Sum.inr z) ry) T.sys dd.mapOf ?_
 rw[qqr,Option.isSome_map]
 exact⟨.bl _,H2,I2.tok _,rfl,q2⟩
end
end L2
namespace T3
open PySem PySem.Spec PyProof.Rows L2
structure Md where
 gs:List (Str × Key):=[]
 ds:List (Str × List (Str × Addr)):=[]
 kt:List (Addr × List Str):=[]
structure qim (P:Program) (w:World) (K:PySem.W.Frag) (mg:Str→Option Value) (m:Md):Prop where
 gs:∀ p ∈ m.gs,∃ t,mg p.1=some (qpa p.2 t)
 ds:∀ p ∈ m.ds,∃ a,mg p.1=some (.ref a)∧qrw P w K a p.2
 kt:∀ p ∈ m.kt,que K p.1 p.2
noncomputable def qpe (tab:List (Str × Addr)) (y:D):M D:=match y with
 | .str z=>match tabAt tab z with
   | some b=>M.pure (.at_ b)
   | none=>M.fail
 | _=>M.fail
noncomputable def qpf (tab:List (Str × Addr)) (y:D):M Bool:=match y with
 | .str z=>M.pure (!(tabAt tab z).isSome)
 | _=>M.fail
noncomputable def qfi (kt:List (Addr × List Str)) (a:Addr):Option (List Str):=(kt.find? fun p=>decide (p.1=a)).map (·.2)
theorem qng {kt:List (Addr × List Str)} {a:Addr} {ks:List Str} (h:qfi kt a=some ks):(a,ks) ∈ kt:=by
 unfold qfi at h
 obtain ⟨p,h1,h2⟩:=Option.map_eq_some_iff.mp h
 have e1:=List.find?_some h1
 have e2:=List.mem_of_find?_eq_some h1
 obtain ⟨a',ks'⟩:=p
 simp at e1 h2
 subst e1 h2
 exact e2
noncomputable def lenK (kt:List (Addr × List Str)) (ds:List D):M D:=match ds with
 | [.at_ a]=>match qfi kt a with
   | some ks=>M.pure (.int ks.length)
   | none=>M.fail
 | _=>M.fail
noncomputable def qea (d:D):M (List D × Src):=match d with
 | .str x=>if x.cps.all (· < 128)then M.pure (x.cps.toList.map fun c=>.str ⟨#[c]⟩,[])else M.fail
 | _=>M.fail
noncomputable def qgc (kt:List (Addr × List Str)) (ds:List D):M (List D × Src):=match ds with
 | [.at_ a,d']=>match qfi kt a with
   | some ks=>M.bind (qa3 d') fun r'=>M.pure (qcv (ks.map D.str) r'.1,[]++r'.2)
   | none=>M.fail
 | _=>M.fail
noncomputable def splitM (o:D) (ds:List D):M D:=match o,ds with
 | .str z,[.str y]=>if decide (y.length ≠ 0) && decide (z.length+2≤sizeLine)then M.pure (.lst ((PySem.Txt.split z y).map D.str))else M.fail
 | _,_=>M.fail
theorem qgd {w:Wd} {H:Hp}:∀ xs:List Str,qf w H (xs.map D.str) (xs.map V.str)
 | []=>rfl
 | x::xs=>⟨_,_,rfl,rfl,qgd xs⟩
section
variable {X:Cx} {E:XW} {f:Env→M D} {fs:Env→M (List D)} {x:Str} {i a b tg:Expr} {p pos:Pos} {e:Expr} {es:List Expr}
theorem q4p {k:Key} {t:Tok} (hg:Gl X x) (hm:X.mg x=some (qpa k t)) (hdb:(x==("__debug__":Str))=false):PE X (.Name x p) (tD E fun _=>M.pure (qud k)) :=
 qd7 (v:=kV k) (qtx hg hm hdb) fun w H=>by cases k <;> rfl
theorem q4q {c:Addr} {tab:List (Str × Addr)} (hg:Gl X x) (hm:X.mg x=some (.ref c)) (T:qrw X.prog X.w X.K c tab) (hi:PE X i (tD E f)) (hs:q0f i) (hdb:(x==("__debug__":Str))=false):PE X (.Subscript (.Name x p) i pos) (tD E fun Γ=>M.bind (f Γ) (qpe tab)):=by
 refine PE.mono (qw9 hg hm T hi hs hdb) fun σ H Q ⟨w,Γ,S,rel,hold,q⟩=> ?_
 refine qh (k:=fun y _=>qpe tab y) rel hold q fun dy y S1 w1 H1 l1 rel1 h1 ry q1=> ?_
 unfold qpe at q1
 cases dy <;> first | exact False.elim q1 | skip
 rename_i z
 dsimp only at q1
 cases e1:tabAt tab z with
 | none=>rw[e1]at q1;exact False.elim q1
 | some b=>rw[e1]at q1;exact⟨z,b,ry,e1,now h1 (d:=.at_ b) rfl q1⟩
theorem q4r {c:Addr} {tab:List (Str × Addr)} (hg:Gl X x) (hm:X.mg x=some (.ref c)) (T:qrw X.prog X.w X.K c tab) (hi:PE X i (tD E f)) (hdb:(x==("__debug__":Str))=false):PT X (.Compare i [.NotIn] [.Name x p] pos) (T3.tB E fun Γ=>M.bind (f Γ) (qpf tab)):=by
 refine PT.mono (qzb (qxa hg hm T hi hdb) rfl) fun σ H Q ⟨w,Γ,S,rel,hold,q⟩=> ?_
 refine qh (k:=fun y _=>qpf tab y) rel hold q fun dy y S1 w1 H1 l1 rel1 h1 ry q1=> ?_
 unfold qpf at q1
 cases dy <;> first | exact False.elim q1 | skip
 rename_i z
 exact⟨z,ry,_,rfl,q1 _ _ (Le.refl _ _) h1⟩
theorem quf {K:PySem.W.Frag} {H:Hp} {c:Addr} {ks:List Str} (h:que K c ks):SqT K H c (ks.map V.str):=.inr h
theorem qxb {kt:List (Addr × List Str)} (h:∀ q ∈ kt,que X.K q.1 q.2):qep X (.builtin "len") (lenK kt):=by
 refine⟨_,qe8,fun E w H S ds vs Q hh rv q=> ?_⟩
 unfold lenK at q
 split at q
 case h_2=>exact False.elim q
 case h_1 c =>
   obtain ⟨v,rfl,r⟩:=rv.one_
   cases (show v=.ref c from r)
   cases e1:qfi kt c with
   | none=>rw[e1]at q;exact False.elim q
   | some ks =>
     rw[e1]at q
     have:=now hh (d:=.int _) rfl q
     exact⟨c,ks.map V.str,rfl,.inr (quf (h _ (qng e1))),by rw[List.length_map];exact this⟩
theorem qpg {w:Wd} {H:Hp} {z:Str}:Walks (Its z) w H [] (z.cps.toList.map fun c=>D.str ⟨#[c]⟩):=by
 refine⟨fun w' H' S' i l hh hs hi=> ?_,fun w' H' S' l hh hs=> ?_,fun w' H' S' i v H'' l hh hs hi y=> ?_⟩
 · have:i < z.cps.size:=by simpa using hi
   exact this
 · show z.cps.size≤_
   simp
 · obtain ⟨rfl,c,h1,rfl⟩:=y
   refine⟨w',.str ⟨#[c]⟩,?_,Le.refl _ _,hh,rfl⟩
   rw[List.getElem?_map,Array.getElem?_toList,h1];rfl
theorem qxc (he:PE X i (tD E f)):PI X tg i (tI E fun Γ=>M.bind (f Γ) qea):=by
 refine PI.mono (qwu he) fun σ H R ⟨w,Γ,S,rel,hold,q⟩=> ?_
 refine qh (k:=fun d _=>qea d) rel hold q fun d v S1 w1 H1 l1 rel1 h1 rv q1=> ?_
 unfold qea at q1
 cases d <;> first | exact False.elim q1 | skip
 rename_i z
 obtain ⟨hz,q1⟩:=Wp.iteF q1
 exact⟨z,rv,hz,q1 _ _ (Le.refl _ _) h1 _ qpg⟩
theorem q1p {elts:List Expr} {k:Nat} {pos':Pos} {kt:List (Addr × List Str)} (h:∀ q ∈ kt,que X.K q.1 q.2) (hg:Gl X "zip") (hm:X.mg "zip"=none) (ha:PA X [a,b] (tL E fs)) (hs:starEach [a,b] X.env=[(false,eval a X.env),(false,eval b X.env)]) (hs2:starEach [b] X.env=[(false,eval b X.env)]) :
   PI X (.Tuple elts k pos') (.Call (.Name "zip" p) [a,b] [] pos) (tI E fun Γ=>M.bind (fs Γ) (qgc kt)):=by
 refine PI.mono (qtg hg hm ha hs hs2) fun σ H R ⟨w,Γ,S,rel,hold,q⟩=> ?_
 refine qb7 (k:=fun ds _=>qgc kt ds) rel hold q fun ds vs S1 w1 H1 l1 rel1 h1 rv q1=> ?_
 unfold qgc at q1
 split at q1
 case h_2=>exact False.elim q1
 case h_1 c d' =>
   obtain ⟨v,v',rfl,r,r'⟩:=rv.two_
   cases (show v=.ref c from r)
   cases e1:qfi kt c with
   | none=>rw[e1]at q1;exact False.elim q1
   | some ks =>
     rw[e1]at q1
     dsimp only at q1
     have q2:=Wp.bind q1
     cases e2:qa3 d' S1 with
     | no=>rw[e2]at q2;exact False.elim q2
     | err x S2=>exact absurd e2 qdv
     | ok rr' S3 =>
       rw[e2]at q2
       obtain ⟨items',src'⟩:=rr'
       obtain ⟨rfl,b2,a2,vs2,rfl,k1',k2'⟩:=qt8 (K:=X.K) h1 r' e2
       have sq:∀ H,SqS X.K false H c (ks.map V.str):=fun H=>quf (h _ (qng e1))
       exact⟨false,b2,c,a2,rfl,⟨_,sq _⟩,⟨vs2,k1'⟩,q2 _ _ (Le.refl _ _) h1 _ _ (Le.refl _ _) h1 _ (qkn (src:=[]) (fun w' H' S' _ _ _=>⟨_,sq _,qgd ks⟩) k2')⟩
theorem qkq:MtT X "str.split" splitM:=by
 refine⟨_,qtw,fun E w H S o ds x vs Q h r rv q=> ?_⟩
 unfold splitM at q
 split at q
 case h_2=>exact False.elim q
 case h_1 z y =>
   obtain ⟨v,rfl,rd⟩:=rv.one_
   obtain ⟨hz,q⟩:=Wp.iteF q
   rw[Bool.and_eq_true]at hz
   cases (show v=.str y from rd)
   refine⟨z,y,r,rfl,of_decide_eq_true hz.1,of_decide_eq_true hz.2,fun p hp=> ?_⟩
   exact qbn (new:=false) h (qgd _) q hp
end
noncomputable def qph (e:Expr):Option Str:=match e with
 | .Constant (.str k) _ _=>some k
 | _=>none
theorem qge {e:Expr} {x:Str} (h:qph e=some x):∃ j p,e=.Constant (.str x) j p:=by
 cases e <;> first | (cases h;done) | skip
 rename_i c j p
 cases c <;> first | (cases h;done) | skip
 cases h
 exact⟨j,p,rfl⟩
noncomputable def qug (tab:List (Str × Str)) (ks:List (Option Expr)) (vs:List Expr):Bool:=decide (ks.map (fun k=>k.bind qph)=tab.map fun p=>some p.1) && decide (vs.map qph=tab.map fun p=>some p.2)
noncomputable def quh (tab:List (Str × Str)):Bool:=decide ((tab.map (·.1)).Nodup) && decide (tab.length≤15) && !tab.isEmpty
noncomputable def qdy (tab:List (Str × Str)) (dflt:Str) (d:D):M D:=match d with
 | .str w=>M.pure (.str ((tab.lookup w).getD dflt))
 | _=>M.fail
noncomputable def qyz (tab:List (Str × Str)):List (TE × TE):=tab.map fun p=>(tC (.str p.1),tC (.str p.2))
noncomputable def kvsOf (tab:List (Str × Str)):List (Key × V):=tab.map fun p=>(Sum.inr p.1,.str p.2)
theorem qui {X:Cx} {pos:Pos}:∀ {tab:List (Str × Str)} {ks:List (Option Expr)} {vs:List Expr},ks.map (fun k=>k.bind qph)=tab.map (fun p=>some p.1)→vs.map qph=tab.map (fun p=>some p.2)→PPs X pos ks vs (qyz tab)∧ks.all (·.isSome)=true
 | [],[],[],_,_=>⟨qwl,rfl⟩
 | [],_::_,_,h,_=>by simp at h
 | [],[],_::_,_,h=>by simp at h
 | p::t,[],_,h,_=>by simp at h
 | p::t,k::ks,[],_,h=>by simp at h
 | p ::t,k::ks,v::vs,h1,h2=>by
   rw[List.map_cons,List.map_cons]at h1 h2
   obtain ⟨a1,b1⟩:=List.cons.inj h1
   obtain ⟨a2,b2⟩:=List.cons.inj h2
   obtain ⟨i1,i2⟩:=qui (X:=X) (pos:=pos) b1 b2
   cases k with
   | none=>cases a1
   | some k =>
     obtain ⟨j,q,rfl⟩:=qge (show qph k=some p.1 from a1)
     obtain ⟨j',q',rfl⟩:=qge a2
     exact⟨qtm qfx qfx i1,by rw[List.all_cons,i2];rfl⟩
theorem qnh {σ:St} {H:Hp}:∀ {tab:List (Str × Str)} {Q:List (V × V)→Hp→Prop},Q ((kvsOf tab).map fun kv=>(kV kv.1,kv.2)) H→qlf (qyz tab) σ H Q
 | [],Q,h=>h
 | p::t,Q,h=>qnh (tab:=t) h
theorem qxd {kvs:List (Key × V)} {k:Key} {v:V} (h:∀ p ∈ kvs,p.1 ≠ k):putK kvs k v=kvs++[(k,v)]:=by
 unfold putK
 rw[if_neg]
 intro z
 obtain ⟨p,hp,e⟩:=List.any_eq_true.mp z
 exact h p hp (of_decide_eq_true e)
theorem qni:∀ {tab:List (Str × Str)} {acc:List (Key × V)},(tab.map (·.1)).Nodup→(∀ p ∈ acc,∀ q ∈ tab,p.1 ≠ Sum.inr q.1)→qc7 acc (kvsOf tab)=acc++kvsOf tab
 | [],acc,_,_=>by simp [kvsOf,qc7]
 | p ::t,acc,nd,h=>by
   rw[List.map_cons,List.nodup_cons]at nd
   have e:qc7 acc (kvsOf (p::t))=qc7 (putK acc (Sum.inr p.1) (.str p.2)) (kvsOf t):=rfl
   rw[e,qxd fun q hq=>h q hq p (.head _),qni nd.2]
   · simp [kvsOf]
   · intro q hq r hr
     rcases List.mem_append.mp hq with z | z
     · exact h q z r (.tail _ hr)
     · rw[List.mem_singleton.mp z]
       intro e
       have e':p.1=r.1:=Sum.inr.inj e
       exact nd.1 (by rw[e'];exact List.mem_map.mpr ⟨r,hr,rfl⟩)
theorem quj {w:Str}:∀ {tab:List (Str × Str)},qej (kvsOf tab) (Sum.inr w)=(tab.lookup w).map V.str
 | []=>rfl
 | p ::t=>by
   obtain ⟨a,b⟩:=p
   by_cases h:a=w
   · subst h
     show qej ((Sum.inr a,V.str b)::kvsOf t) (Sum.inr a)=_
     rw[qcw rfl,List.lookup_cons]
     simp
   · show qej ((Sum.inr a,V.str b)::kvsOf t) (Sum.inr w)=_
     rw[qcx (fun e=>h (Sum.inr.inj e)),quj (tab:=t),List.lookup_cons]
     have:(w==a)=false:=by simp;exact fun e=>h e.symm
     rw[this]
theorem q4s {X:Cx} {o e f:Expr} {m:Str} {apos cpos:Pos} (h1:qfh o=true) (h2:notStar e=true) (h3:notStar f=true) (h4:(apos.endLine==cpos.line)=true):M2 X o m apos e f cpos:=by
 refine⟨qc9 h1,qub (by rw[List.all_cons,List.all_cons,h2,h3];rfl) (by show 2 < 30;decide),h4,?_⟩
 rw[qac h2,qac h3]
 rfl
theorem q1q {X:Cx} {E:XW} {tab:List (Str × Str)} {dflt:Str} {ks:List (Option Expr)} {vs:List Expr} {dp apos cpos pd:Pos} {j:Nat} {e:Expr} {f:Env→M D} (hu:X.A.units+1 < cLine) (h1:qug tab ks vs=true) (h2:quh tab=true) (he:PE X e (tD E f)) (m:M2 X (.Dict ks vs dp) "get" apos e (.Constant (.str dflt) j pd) cpos) :
   PE X (.Call (.Attribute (.Dict ks vs dp) "get" apos) [e,.Constant (.str dflt) j pd] [] cpos) (tD E fun Γ=>M.bind (f Γ) (qdy tab dflt)):=by
 unfold qug at h1
 rw[Bool.and_eq_true]at h1
 have k1:=of_decide_eq_true h1.1
 have k2:=of_decide_eq_true h1.2
 unfold quh at h2
 simp only [Bool.and_eq_true,decide_eq_true_eq,Bool.not_eq_true']at h2
 obtain ⟨⟨nd,hl⟩,h0⟩:=h2
 obtain ⟨p1,p2⟩:=qui (X:=X) (pos:=dp) k1 k2
 have l1:ks.length=tab.length:=by have:=congrArg List.length k1;simpa using this
 have l2:vs.length=tab.length:=by have:=congrArg List.length k2;simpa using this
 refine PE.mono (qtn hu (qwm p1 p2 (l1.trans l2.symm) (fun z=>by rw[z]at l1;cases tab <;> simp at l1 h0) (by omega)) he qfx m) fun σ H Q ⟨w,Γ,S,rel,hold,q⟩=> ?_
 intro p hp
 refine qnh ⟨qj,kvsOf tab,rfl,by simpa [kvsOf]using hl,p,rfl,.inl ⟨_,.inl qj⟩,?_⟩
 rw[qp5,qni nd (by simp),List.nil_append]
 have hd:=qcy (o:=HO.dK (kvsOf tab)) hold hp
 have lf:=qcc (o:=HO.dK (kvsOf tab)) hold hp
 refine qh (k:=fun d _=>qdy tab dflt d) (rel.mono lf) hd (Wp.later q lf) fun d v S1 w1 H1 l1 rel1 hd1 rv q1=> ?_
 unfold qdy at q1
 cases d <;> first | exact False.elim q1 | skip
 rename_i x
 cases (show v=.str x from rv)
 refine⟨(tab.lookup x).map V.str,.inl ⟨_,Sum.inr x,(l1.h p (.inl rfl)).rd (.inl qj),rfl,quj.symm⟩,?_⟩
 have:=now hd1 (d:=.str ((tab.lookup x).getD dflt)) rfl q1
 cases ee:tab.lookup x <;> rw[ee]at this <;> exact this
set_option genInjectivity false
inductive Bi where
 | len | all | list (new:Bool) | tuple | int | str | isi
inductive Mt where
 | append | join | split
mutual
inductive CE where
 | var (i:Nat) | int (i:Int) | str (x:Str) | bl (b:Bool) | non | ty (n:String)
 | bin (new:Bool) (op:Operator) (a b:CE) | cmp (op:CmpOp) (a b:CE) | chain (o p:CmpOp) (a b c:CE)
 | and (a b:CE) | or (a b:CE) | not (a:CE) | one (a:CE) | ife (c:CB) (a b:CE)
 | tup (as:CL) | lst (new:Bool) (as:CL)
 | ix (a i:CE) | sl (new:Bool) (a:CE) (lo hi:CO)
 | call (j:Nat) (as:CL) | bi (b:Bi) (as:CL) | mt (m:Mt) (o:CE) (as:CL)
 | lc (new:Bool) (n:Nat) (t:CG) (i:CI) (c:CF) (e:CE)
 | frz (a:CE) | dget (tab:List (Str × Str)) (dflt:Str) (a:CE) | con (x:Str) (k:Key) | itm (x:Str) (tab:List (Str × Addr)) (a:CE) | lenK (kt:List (Addr × List Str)) (as:CL)
inductive CB where
 | cmp (op:CmpOp) (a b:CE) | chain (o p:CmpOp) (a b c:CE) | and (a b:CB) | or (a b:CB) | not (a:CB) | one (a:CB) | tru (a:CE) | nin (x:Str) (tab:List (Str × Addr)) (a:CE)
inductive CL where
 | nil | cons (a:CE) (r:CL)
inductive CO where
 | no | at_ (a:CE)
inductive CI where
 | seq (a:CE) | rng1 (as:CL) | zip (as:CL) | chars (a:CE) | zipK (kt:List (Addr × List Str)) (as:CL)
inductive CG where
 | nm (i:Nat) | tg (ts:CT) | sub (o i:CE)
inductive CT where
 | nil | cons (a:CG) (r:CT)
inductive CF where
 | yes | if_ (b:CB)
end
mutual
inductive CS where
 | ex (a:CE) | ret (a:CE) | sif (c:CB) (a b:CSL) | asg (t:CG) (e:CE) | set (i:Nat) (e:CE)
 | augIx (op:Operator) (o i e:CE) | sfor (t:CG) (i:CI) (b:CSL) | rse
inductive CSL where
 | nil | cons (a:CS) (r:CSL)
end
noncomputable def q4t (t n:String):Bool:=t==n || (t=="bool" && n=="int")
noncomputable def tys:List String:=["NoneType","bool","int","str","list","tuple","dict"]
noncomputable def tyn:List String:=["bool","int","str","list","tuple","dict"]
theorem qxe (K:PySem.W.Frag):∀ t ∈ tys,∀ n ∈ tyn,PySem.W.kitOne K (.type t) (.type n)=some (q4t t n):=by
 intro t ht n hn
 simp only [tys,tyn,List.mem_cons,List.not_mem_nil,or_false]at ht hn
 rcases ht with rfl | rfl | rfl | rfl | rfl | rfl | rfl <;> rcases hn with rfl | rfl | rfl | rfl | rfl | rfl <;> rfl
noncomputable def qrx:D→Option String
 | .non=>some "NoneType"
 | .bl _=>some "bool"
 | .int _=>some "int"
 | .str _=>some "str"
 | .lst _=>some "list"
 | .tup _=>some "tuple"
 | _=>none
theorem qxf {d:D} {t:String} (h:qrx d=some t):t ∈ tys:=by
 cases d <;> simp only [qrx]at h <;> first | (cases h;done) | (cases h;decide)
noncomputable def q1r (ds:List D):M D:=match ds with
 | [d,.ty n]=>fun S=>match qrx (look d S)with
   | some t=>(if tyn.contains n then M.pure (.bl (q4t t n))else M.fail) S
   | none=>.no
 | _=>M.fail
theorem qxg {K:PySem.W.Frag} {w:Wd} {H:Hp} {S:Sto} {d:D} {v:V} {t:String} (h:qi w H S) (r:Rep w H d v) (e:qrx (look d S)=some t):qe7 K H v (.type t):=by
 cases e1:look d S <;> rw[e1]at e <;> simp only [qrx]at e <;> first | (cases e;done) | skip
 case non=>cases e;rw[qfe r e1];exact .non
 case bl b=>cases e;rw[qqj r e1];exact .bl b
 case int b=>cases e;rw[qr r e1];exact .int b
 case str b=>cases e;rw[qa1 r e1];exact .str b
 case lst xs=>cases e;obtain ⟨p,vs,rfl,hp,_⟩:=qt h r e1;exact .lst hp
 case tup xs=>cases e;obtain ⟨p,vs,rfl,hp,_⟩:=qag h r e1;exact .tup hp
theorem q1s {X:Cx}:qep X (.builtin "isinstance") q1r:=by
 refine⟨_,qs8,fun E w H S ds vs Q h rv q=> ?_⟩
 unfold q1r at q
 split at q
 case h_2=>exact False.elim q
 case h_1 d n =>
   obtain ⟨v,v',rfl,r,r'⟩:=rv.two_
   cases (show v'=.ty n from r')
   cases e:qrx (look d S)with
   | none=>rw[e]at q;exact False.elim q
   | some t =>
     rw[e]at q
     obtain ⟨hn,q⟩:=Wp.iteF q
     exact⟨v,n,_,_,rfl,qxg h r e,qxe _ t (qxf e) n (by simpa using hn),now h (d:=.bl _) rfl q⟩
noncomputable def Bi.name:Bi→Str
 | .len=>"len" | .all=>"all" | .list _=>"list" | .tuple=>"tuple" | .int=>"int" | .str=>"str" | .isi=>"isinstance"
noncomputable def biF:Bi→List D→M D
 | .len=>q06 | .all=>qgt qpb | .list new=>qtz new | .tuple=>qt0 | .int=>intD | .str=>q1b | .isi=>q1r
noncomputable def Mt.name:Mt→Str
 | .append=>"append" | .join=>"join" | .split=>"split"
noncomputable def mtF:Mt→D→List D→M D
 | .append=>qlo | .join=>joinM | .split=>splitM
noncomputable def mtT:Mt→D→Bool
 | .join=>isS
 | .split=>isS
 | _=>isL
noncomputable def qnj:CT→Nat
 | .cons _ r=>qnj r+1
 | .nil=>0
noncomputable def qai (Φ:List Fd) (fns:List (Str × Nat × Nat)) (j:Nat) (ds:List D):M D:=match Φ[j]?,fns[j]? with
 | some F,some (_,n,_)=>qaz n F ds
 | _,_=>M.fail
mutual
noncomputable def evE (Φ:List Fd) (fns:List (Str × Nat × Nat)):CE→Env→M D
 | .var i=>qjj i
 | .int i=>fun _=>M.pure (.int i)
 | .str x=>fun _=>M.pure (.str x)
 | .bl b=>fun _=>M.pure (.bl b)
 | .non=>fun _=>M.pure .non
 | .ty n=>fun _=>M.pure (.ty n)
 | .bin new op a b=>fun Γ=>M.bind (evE Φ fns a Γ) fun x=>M.bind (evE Φ fns b Γ) fun y=>qha new op x y
 | .cmp op a b=>fun Γ=>M.bind (evE Φ fns a Γ) fun x=>M.bind (evE Φ fns b Γ) fun y=>qa2 op x y
 | .chain o p a b c=>qf8 (qa2 o) (qa2 p) (evE Φ fns a) (evE Φ fns b) (evE Φ fns c)
 | .and a b=>q02 (evE Φ fns a) (evE Φ fns b)
 | .or a b=>orV (evE Φ fns a) (evE Φ fns b)
 | .one a=>evE Φ fns a
 | .not a=>q3z (evE Φ fns a)
 | .ife c a b=>ifE (evB Φ fns c) (evE Φ fns a) (evE Φ fns b)
 | .tup as=>fun Γ=>M.bind (evA Φ fns as Γ) mkT
 | .lst new as=>fun Γ=>M.bind (evA Φ fns as Γ) (mkL new)
 | .ix a i=>fun Γ=>M.bind (evE Φ fns a Γ) fun x=>M.bind (evE Φ fns i Γ) fun y S=>ixM (look x S) y S
 | .sl new a lo hi=>slD new (evE Φ fns a) (evO Φ fns lo) (evO Φ fns hi)
 | .call j as=>fun Γ=>M.bind (evA Φ fns as Γ) (qai Φ fns j)
 | .bi b as=>fun Γ=>M.bind (evA Φ fns as Γ) (biF b)
 | .mt m o as=>mtD (mtT m) (evE Φ fns o) (evA Φ fns as) (mtF m)
 | .lc new n t i c e=>lcD new n (evI Φ fns i) (evG Φ fns t) (evF Φ fns c) (evE Φ fns e)
 | .frz a=>fun Γ=>M.bind (evE Φ fns a Γ) qpd
 | .dget tab dflt a=>fun Γ=>M.bind (evE Φ fns a Γ) (qdy tab dflt)
 | .con _ k=>fun _=>M.pure (qud k)
 | .itm _ tab a=>fun Γ=>M.bind (evE Φ fns a Γ) (qpe tab)
 | .lenK kt as=>fun Γ=>M.bind (evA Φ fns as Γ) (lenK kt)
noncomputable def evB (Φ:List Fd) (fns:List (Str × Nat × Nat)):CB→Env→M Bool
 | .cmp op a b=>fun Γ=>M.bind (M.bind (evE Φ fns a Γ) fun x=>M.bind (evE Φ fns b Γ) fun y=>qa2 op x y) asB
 | .chain o p a b c=>fun Γ=>M.bind (qf8 (qa2 o) (qa2 p) (evE Φ fns a) (evE Φ fns b) (evE Φ fns c) Γ) asB
 | .and a b=>q0z (evB Φ fns a) (evB Φ fns b)
 | .or a b=>orB (evB Φ fns a) (evB Φ fns b)
 | .one a=>evB Φ fns a
 | .not a=>q00 (evB Φ fns a)
 | .tru a=>fun Γ=>M.bind (evE Φ fns a Γ) qrl
 | .nin _ tab a=>fun Γ=>M.bind (evE Φ fns a Γ) (qpf tab)
noncomputable def evF (Φ:List Fd) (fns:List (Str × Nat × Nat)):CF→Env→M Bool
 | .yes=>fun _=>M.pure true
 | .if_ a=>evB Φ fns a
noncomputable def evA (Φ:List Fd) (fns:List (Str × Nat × Nat)):CL→Env→M (List D)
 | .nil=>fun _=>M.pure []
 | .cons a r=>qtv (evE Φ fns a) (evA Φ fns r)
noncomputable def evO (Φ:List Fd) (fns:List (Str × Nat × Nat)):CO→Env→M (Option Int)
 | .no=>fun _=>M.pure none
 | .at_ a=>fun Γ=>M.bind (evE Φ fns a Γ) asI
noncomputable def evI (Φ:List Fd) (fns:List (Str × Nat × Nat)):CI→MI
 | .seq a=>fun Γ=>M.bind (evE Φ fns a Γ) qa3
 | .rng1 as=>fun Γ=>M.bind (evA Φ fns as Γ) qez
 | .zip as=>fun Γ=>M.bind (evA Φ fns as Γ) qgw
 | .chars a=>fun Γ=>M.bind (evE Φ fns a Γ) qea
 | .zipK kt as=>fun Γ=>M.bind (evA Φ fns as Γ) (qgc kt)
noncomputable def evG (Φ:List Fd) (fns:List (Str × Nat × Nat)):CG→D→Env→M Env
 | .nm i=>q1e i
 | .tg ts=>qt2 (qnj ts) (evT Φ fns ts)
 | .sub o i=>q1h (evE Φ fns o) (evE Φ fns i)
noncomputable def evT (Φ:List Fd) (fns:List (Str × Nat × Nat)):CT→List D→Env→M Env
 | .nil=>qt1
 | .cons a r=>qll (evG Φ fns a) (evT Φ fns r)
end
mutual
noncomputable def evS (Φ:List Fd) (fns:List (Str × Nat × Nat)):CS→MS
 | .ex a=>fun Γ=>M.bind (evE Φ fns a Γ) fun _=>M.pure (.nx,Γ)
 | .ret a=>fun Γ=>M.bind (evE Φ fns a Γ) fun d=>M.pure (.rt d,Γ)
 | .sif c a b=>ifS (evB Φ fns c) (qaf Φ fns a) (qaf Φ fns b)
 | .asg t e=>fun Γ=>M.bind (evE Φ fns e Γ) fun d=>M.bind (evG Φ fns t d Γ) fun Γ'=>M.pure (.nx,Γ')
 | .set i e=>fun Γ=>M.bind (evE Φ fns e Γ) fun d=>M.pure (.nx,Γ.set i (some d))
 | .augIx op o i e=>augIx op (evE Φ fns o) (evE Φ fns i) (evE Φ fns e)
 | .sfor t i b=>q1k (evI Φ fns i) (evG Φ fns t) (qaf Φ fns b)
 | .rse=>fun _=>M.fail
noncomputable def qaf (Φ:List Fd) (fns:List (Str × Nat × Nat)):CSL→MS
 | .nil=>qyy
 | .cons a r=>seqS (evS Φ fns a) (qaf Φ fns r)
end
set_option genInjectivity false in
set_option genInjectivity false in
structure Sx where
 N:List Str
 sc:Scope
 fnb:Str→Bool
 fns:List (Str × Nat × Nat)
 L:Nat
 bs:List Str
 md:Md
noncomputable def Sx.inner (s:Sx) (ts Mk:List Str) (scope:Scope):Sx:={ s with N:=ts++Mk,sc:=qkd scope s.sc,fnb:=fun x=>scope.names.lookup x==some .cell }
noncomputable def q1t (sc:Scope) (x:Str):Bool:=match sc.names.lookup x with
 | some .local=>true
 | some .cell=>true
 | some .free=>true
 | _=>false
noncomputable def q1u (sc:Scope) (x:Str):Bool:=match sc.names.lookup x with
 | some .local=>true
 | some .cell=>true
 | _=>false
noncomputable def lcl (sc:Scope) (x:Str):Bool:=sc.names.lookup x==some .local
noncomputable def qa9 (s:Sx) (i:Nat) (x:Str):Bool:=decide (s.N[i]? =some x) && q1t s.sc x && !(x==("__debug__":Str)) && !(x==("__classdict__":Str))
noncomputable def qgx (s:Sx) (i:Nat) (x:Str):Bool:=decide (s.N[i]? =some x) && q1u s.sc x && (s.fnb x || lcl s.sc x)
noncomputable def qdz (s:Sx) (x:Str):Bool:=s.sc.names.lookup x==some .globalImplicit && !(x==("__debug__":Str)) && decide (x ≠ "__name__")
noncomputable def okB (s:Sx) (x:Str):Bool:=qdz s x && s.bs.any (fun y=>decide (y=x))
mutual
noncomputable def tgs:CG→List Nat
 | .nm i=>[i]
 | .tg ts=>quk ts
 | .sub _ _=>[]
noncomputable def quk:CT→List Nat
 | .cons a r=>tgs a++quk r
 | .nil=>[]
end
mutual
noncomputable def nms:CG→Bool
 | .nm _=>true
 | .tg ts=>qxh ts
 | .sub _ _=>false
noncomputable def qxh:CT→Bool
 | .cons a r=>nms a && qxh r
 | .nil=>true
end
noncomputable def isTup:Expr→Bool
 | .Tuple _ _ _=>true
 | _=>false
noncomputable def tsN:Expr→List Str
 | .Name x _=>[x]
 | _=>[]
noncomputable def qnk:Expr→List Str
 | .Name x _=>[x]
 | .Tuple es _ _=>es.flatMap fun e=>match e with
   | .Tuple es' _ _=>es'.flatMap tsN
   | e=>tsN e
 | _=>[]
noncomputable def qry (N:List Str) (t:Expr):List Str:=N.map fun x=>if (qnk t).any (fun y=>decide (y=x))then (".":Str)++x else x
mutual
noncomputable def qaj (s:Sx):CE→Expr→Bool
 | .var i,e=>match e with
   | .Name x _=>qa9 s i x
   | _=>false
 | .int i,e=>match e with
   | .Constant (.int j) _ _=>decide (i=j)
   | _=>false
 | .str i,e=>match e with
   | .Constant (.str j) _ _=>decide (i=j)
   | _=>false
 | .bl i,e=>match e with
   | .Constant (.bool j) _ _=>decide (i=j)
   | _=>false
 | .non,e=>match e with
   | .Constant .none _ _=>true
   | _=>false
 | .ty n,e=>match e with
   | .Name x _=>decide (x=(n:Str)) && okB s x && tyn.contains n
   | _=>false
 | .bin _ op a b,e=>match e with
   | .BinOp x o y _=>decide (op=o) && qaj s a x && qaj s b y
   | _=>false
 | .cmp op a b,e=>match e with
   | .Compare x [o] [y] _=>decide (op=o) && qc8 y && qaj s a x && qaj s b y
   | _=>false
 | .chain o p a b c,e=>match e with
   | .Compare x [o',p'] [y,z] _=>decide (o=o') && decide (p=p') && qc8 z && qaj s a x && qaj s b y && qaj s c z
   | _=>false
 | .and a b,e=>match e with
   | .BoolOp .And (x::y::r) p=>qaj s a x && qaj s b (.BoolOp .And (y::r) p)
   | _=>false
 | .or a b,e=>match e with
   | .BoolOp .Or (x::y::r) p=>qaj s a x && qaj s b (.BoolOp .Or (y::r) p)
   | _=>false
 | .one a,e=>match e with
   | .BoolOp _ [x] _=>qaj s a x
   | _=>false
 | .not a,e=>match e with
   | .UnaryOp .Not x _=>qaj s a x
   | _=>false
 | .ife c a b,e=>match e with
   | .IfExp z x y _=>qgf s c z && qaj s a x && qaj s b y
   | _=>false
 | .tup as,e=>match e with
   | .Tuple es _ _=>qgg s as es
   | _=>false
 | .lst _ as,e=>match e with
   | .List es _=>qgg s as es
   | _=>false
 | .ix a i,e=>match e with
   | .Subscript x y _=>qcf y && qaj s a x && qaj s i y
   | _=>false
 | .sl _ a lo hi,e=>match e with
   | .Subscript x (.Slice l h none _) _=>qaj s a x && q1v s lo l && q1v s hi h
   | _=>false
 | .call j as,e=>match e with
   | .Call (.Name x _) es [] _=>qdz s x && (match s.fns[j]? with | some (y,n,k)=>decide (x=y) && decide (n=es.length) && decide (k≤s.L) | none=>false) && es.all notStar && qgg s as es
   | _=>false
 | .bi b as,e=>match e with
   | .Call (.Name x _) es [] _=>okB s x && decide (x=b.name) && !es.isEmpty && es.all notStar && qgg s as es
   | _=>false
 | .mt m o as,e=>match e with
   | .Call (.Attribute x n p) es [] q=>decide (n=m.name) && qfh x && (p.endLine==q.line) && es.all notStar && decide (es.length < 30) && qaj s o x && qgg s as es
   | _=>false
 | .lc _ n t i c el,e=>match e with
   | .ListComp x [g] scope _=>decide (g.is_async=0) && qlb s.N s.sc (qnk g.target) (qry s.N g.target) scope && qc8 g.iter && q1w s i g.target g.iter && qul (s.inner (qnk g.target) (qry s.N g.target) scope) t g.target && (tgs t).all (fun k=>decide (k < n)) && nms t && q4u (s.inner (qnk g.target) (qry s.N g.target) scope) c g.ifs && qaj (s.inner (qnk g.target) (qry s.N g.target) scope) el x && decide ((qnk g.target).length=n)
   | _=>false
 | .frz a,e=>qaj s a e
 | .con x k,e=>match e with
   | .Name y _=>decide (x=y) && qdz s x && s.md.gs.any (fun p=>decide (p=(x,k)))
   | _=>false
 | .itm x tab a,e=>match e with
   | .Subscript z i _=>match z with
     | .Name y _=>decide (x=y) && qdz s x && s.md.ds.any (fun p=>decide (p=(x,tab))) && qcf i && qaj s a i
     | _=>false
   | _=>false
 | .lenK kt as,e=>match e with
   | .Call (.Name x _) es [] _=>okB s x && decide (x="len") && !es.isEmpty && es.all notStar && decide (kt=s.md.kt) && qgg s as es
   | _=>false
 | .dget tab dflt a,e=>match e with
   | .Call fn [z,d] [] cp=>match fn with
     | .Attribute o m ap=>match o with
       | .Dict ks vs _=>decide (m="get") && qug tab ks vs && quh tab && decide (qph d=some dflt) && notStar z && (ap.endLine==cp.line) && qaj s a z
       | _=>false
     | _=>false
   | _=>false
noncomputable def qgf (s:Sx):CB→Expr→Bool
 | .cmp op a b,e=>match e with
   | .Compare x [o] [y] _=>decide (op=o) && qc8 y && qaj s a x && qaj s b y
   | _=>false
 | .chain o p a b c,e=>match e with
   | .Compare x [o',p'] [y,z] _=>decide (o=o') && decide (p=p') && qc8 z && qaj s a x && qaj s b y && qaj s c z
   | _=>false
 | .and a b,e=>match e with
   | .BoolOp .And (x::y::r) p=>qgf s a x && qgf s b (.BoolOp .And (y::r) p)
   | _=>false
 | .or a b,e=>match e with
   | .BoolOp .Or (x::y::r) p=>qgf s a x && qgf s b (.BoolOp .Or (y::r) p)
   | _=>false
 | .one a,e=>match e with
   | .BoolOp _ [x] _=>qgf s a x
   | _=>false
 | .not a,e=>match e with
   | .UnaryOp .Not x _=>qgf s a x
   | _=>false
 | .tru a,e=>plainT e && qaj s a e
 | .nin x tab a,e=>match e with
   | .Compare i [o] [z] _=>match z with
     | .Name y _=>decide (o=.NotIn) && decide (x=y) && qdz s x && s.md.ds.any (fun p=>decide (p=(x,tab))) && qaj s a i
     | _=>false
   | _=>false
noncomputable def q4u (s:Sx):CF→List Expr→Bool
 | .yes,es=>es.isEmpty
 | .if_ a,es=>match es with
   | [x]=>qgf s a x
   | _=>false
noncomputable def qgg (s:Sx):CL→List Expr→Bool
 | .nil,es=>es.isEmpty
 | .cons a r,es=>match es with
   | x::xs=>notStar x && qaj s a x && qgg s r xs
   | []=>false
noncomputable def q1v (s:Sx):CO→Option Expr→Bool
 | .no,o=>o.isNone
 | .at_ a,o=>match o with
   | some x=>qaj s a x
   | none=>false
noncomputable def q1w (s:Sx):CI→Expr→Expr→Bool
 | .seq a,_,e=>qaj s a e
 | .rng1 as,_,e=>match e with
   | .Call (.Name x _) [y] [] _=>decide (x="range") && okB s x && notStar y && qgg s as [y]
   | _=>false
 | .zip as,t,e=>match e with
   | .Call (.Name x _) [y,z] [] _=>isTup t && decide (x="zip") && okB s x && notStar y && notStar z && qgg s as [y,z]
   | _=>false
 | .chars a,_,e=>qaj s a e
 | .zipK kt as,t,e=>match e with
   | .Call (.Name x _) [y,z] [] _=>isTup t && decide (x="zip") && okB s x && notStar y && notStar z && decide (kt=s.md.kt) && qgg s as [y,z]
   | _=>false
noncomputable def qul (s:Sx):CG→Expr→Bool
 | .nm i,e=>match e with
   | .Name x _=>qgx s i x
   | _=>false
 | .tg ts,e=>match e with
   | .Tuple es _ _=>es.all notStar && decide (es.length=qnj ts) && q1x s ts es
   | _=>false
 | .sub o i,e=>match e with
   | .Subscript x y _=>qcf y && qaj s o x && qaj s i y
   | _=>false
noncomputable def q1x (s:Sx):CT→List Expr→Bool
 | .nil,es=>es.isEmpty
 | .cons a r,es=>match es with
   | x::xs=>notStar x && qul s a x && q1x s r xs
   | []=>false
end
structure Gd (CX:CXT) (Φ:List Fd) (s:Sx) (X:Cx) (E':XK):Prop where
 hN:X.N=s.N
 hsc:X.env.scope=s.sc
 hfn:X.fn=s.fnb
 calm:X.calm=true
 room:qaw s.L X.A
 own:PassesOwn (model X.prog X.w) X.A X.env X.xe
 pass:Passes CX X E'
 nd:s.N.Nodup
 blt:∀ b ∈ s.bs,X.mg b=none
 md:qim X.prog X.w X.K X.mg s.md
 fns:∀ (j:Nat) (x:Str) (n k:Nat),s.fns[j]? =some (x,n,k)→∃ F,Φ[j]? =some F∧FnT CX X.prog X.w X.K X.mg X.base x n k F
section
variable {CX:CXT} {Φ:List Fd} {s:Sx} {X:Cx} {E':XK}
theorem qlq {sc:Scope} {x:Str} (h:q1t sc x=true):Vis sc x:=by
 unfold q1t at h
 unfold Vis
 cases e:sc.names.lookup x with
 | none=>rw[e]at h;cases h
 | some k=>rw[e]at h;cases k <;> first | (cases h;done) | simp
theorem qum {sc:Scope} {x:Str} (h:q1u sc x=true):L2.Loc sc x:=by
 unfold q1u at h
 unfold L2.Loc
 cases e:sc.names.lookup x with
 | none=>rw[e]at h;cases h
 | some k=>rw[e]at h;cases k <;> first | (cases h;done) | simp
theorem Gd.var (G:Gd CX Φ s X E') {i:Nat} {x:Str} {pos:Pos} (h:qa9 s i x=true) {E:XW}:PE X (.Name x pos) (tD E (qjj i)):=by
 unfold qa9 at h
 simp only [Bool.and_eq_true,Bool.not_eq_true',decide_eq_true_eq]at h
 exact q3w (by rw[G.hN];exact h.1.1.1) (by rw[G.hsc];exact qlq h.1.1.2) h.1.2 h.2
theorem Gd.gl (G:Gd CX Φ s X E') {x:Str} (h:qdz s x=true):Gl X x∧(x==("__debug__":Str))=false∧x ≠ "__name__":=by
 unfold qdz at h
 simp only [Bool.and_eq_true,Bool.not_eq_true',decide_eq_true_eq,beq_iff_eq]at h
 exact⟨by unfold Gl Env.kindOf;rw[G.hsc];exact h.1.1,h.1.2,h.2⟩
theorem Gd.bl (G:Gd CX Φ s X E') {x:Str} (h:okB s x=true):Gl X x∧(x==("__debug__":Str))=false∧x ≠ "__name__"∧X.mg x=none:=by
 unfold okB at h
 rw[Bool.and_eq_true,List.any_eq_true]at h
 obtain ⟨h1,y,hy,e⟩:=h
 obtain ⟨a,b,c⟩:=G.gl h1
 have:y=x:=of_decide_eq_true e
 exact⟨a,b,c,this ▸ G.blt y hy⟩
theorem Gd.lc (G:Gd CX Φ s X E') {i:Nat} {x:Str} (h:qgx s i x=true):X.N[i]? =some x∧Loc X.env.scope x∧(X.fn x=true∨X.env.scope.names.lookup x=some .local):=by
 unfold qgx at h
 simp only [Bool.and_eq_true,decide_eq_true_eq,Bool.or_eq_true]at h
 refine⟨by rw[G.hN];exact h.1.1,by rw[G.hsc];exact qum h.1.2,?_⟩
 rcases h.2 with z | z
 · exact .inl (by rw[G.hfn];exact z)
 · unfold lcl at z
   exact .inr (by rw[G.hsc];simpa using z)
noncomputable def qlr (CX:CXT):Prop:=∀ outer H s e s',¬ CX outer H s E0 e s'
theorem Gd.inner (hc:qlr CX) (G:Gd CX Φ s X E') {ts Mk:List Str} {scope:Scope} (ok:qlb s.N s.sc ts Mk scope=true) (C:Addr) (fp:List Addr) (s₀:Shared) (H₀:Hp):Gd CX Φ (s.inner ts Mk scope) (cxC X ts Mk scope C fp s₀ H₀) E0 where
 hN:=rfl
 hsc:=by
   show (relabel scope X.env)=qkd scope s.sc
   rw[← G.hsc]
   rfl
 hfn:=rfl
 calm:=G.calm
 room:=G.room
 own:=PassesOwn.never
 pass:=fun pins σ H s e s' _ h=>hc _ _ _ _ _ h
 nd:=(qlc (X:=X) G.hN G.hsc ok).nd
 blt:=G.blt
 md:=G.md
 fns:=G.fns
end
end T3
set_option maxHeartbeats 1000000
namespace T3
open PySem PySem.Spec PyProof.Rows L2
section
variable {Φ:List Fd} {fns:List (Str × Nat × Nat)}
mutual
theorem qpi:∀ (t:CG),nms t=true→qc0 (evG Φ fns t)
 | .nm i,_=>by rw[evG];exact qrt i
 | .tg ts,h=>by
   rw[evG]
   rw[nms]at h
   intro d Γ S Γ' S' e
   unfold qt2 at e
   cases e1:look d S <;> rw[e1]at e <;> first | (cases e;done) | skip
   · dsimp only at e
     split at e
     · exact qpj ts h _ _ _ _ _ e
     · cases e
   · dsimp only at e
     split at e
     · exact qpj ts h _ _ _ _ _ e
     · cases e
 | .sub _ _,h=>by simp [nms]at h
theorem qpj:∀ (t:CT),qxh t=true→∀ ds Γ S Γ' S',evT Φ fns t ds Γ S=.ok Γ' S'→Γ'.length=Γ.length
 | .nil,_,ds,Γ,S,Γ',S',e=>by
   rw[evT]at e
   unfold qt1 at e
   split at e
   · cases e;rfl
   · cases e
 | .cons a r,h,ds,Γ,S,Γ',S',e=>by
   rw[evT]at e
   rw[qxh,Bool.and_eq_true]at h
   unfold qll at e
   split at e
   · rename_i d ds
     unfold M.bind at e
     cases e1:evG Φ fns a d Γ S with
     | no=>rw[e1]at e;cases e
     | err x S1=>rw[e1]at e;cases e
     | ok Γ1 S1 =>
       rw[e1]at e
       rw[qpj r h.2 _ _ _ _ _ e,qpi a h.1 _ _ _ _ _ e1]
   · cases e
end
end
section
variable {CX:CXT} {Φ:List Fd} (hcx:qlr CX)
theorem dec {p:Prop} [Decidable p] (h:decide p=true):p:=of_decide_eq_true h
theorem Gd.units {s:Sx} {X:Cx} {E':XK} (G:Gd CX Φ s X E'):X.A.units+64 < cLine:=G.room.units
theorem Gd.units1 {s:Sx} {X:Cx} {E':XK} (G:Gd CX Φ s X E'):X.A.units+1 < cLine:=Nat.lt_of_le_of_lt (by omega) G.room.units
theorem q4v {s:Sx} {X:Cx} {E':XK} (G:Gd CX Φ s X E') {E:XW} {e:Expr} {es:List Expr} {fs:Env→M (List D)} {p pos:Pos} {x:Str} (b:Bi) (hb:okB s x=true) (hx:x=b.name) (hst:(e::es).all notStar=true) (ha:PA X (e::es) (tL E fs)) :
   PE X (.Call (.Name x p) (e::es) [] pos) (tD E fun Γ=>M.bind (fs Γ) (biF b)):=by
 obtain ⟨g1,g2,g3,g4⟩:=G.bl hb
 rw[List.all_cons,Bool.and_eq_true]at hst
 have h1:=qac (es:=es) (env:=X.env) hst.1
 have h2:=qdw (pos:=pos) (env:=X.env) hst.2
 subst hx
 cases b with
 | len=>exact qhm q07 g1 g4 qs7 ha g3 g2 h1 h2
 | all=>exact qhm (q08 G.calm) g1 g4 q0c ha g3 g2 h1 h2
 | list new=>exact qfg qwx g1 g4 qk9 ha g3 g2 h1 h2
 | tuple=>exact qfg q09 g1 g4 qmy ha g3 g2 h1 h2
 | int=>exact qfg q1a g1 g4 qs5 ha g3 g2 h1 h2
 | str=>exact qfg q1c g1 g4 qs6 ha g3 g2 h1 h2
 | isi=>exact qhm q1s g1 g4 qel ha g3 g2 h1 h2
theorem q4w {s:Sx} {X:Cx} {E':XK} (G:Gd CX Φ s X E') {E:XW} {o:Expr} {es:List Expr} {f:Env→M D} {fs:Env→M (List D)} {p q:Pos} {n:Str} (m:Mt) (hn:n=m.name) (hc:qfh o=true) (hl:(p.endLine==q.line)=true) (hst:es.all notStar=true) (hln:es.length < 30)
   (ho:PE X o (tD E f)) (ha:PA X es (tL E fs)) (h0:es=[]→fs=fun _=>M.pure []):PE X (.Call (.Attribute o n p) es [] q) (tD E (mtD (mtT m) f fs (mtF m))):=by
 subst hn
 cases es with
 | nil =>
   rw[h0 rfl]
   cases m with
   | append=>exact qua PySem.F.plainAttrs_list PySem.F.slot_list_append PySem.F.type_list_append qij q4o ho (qc9 hc) hl
   | join=>exact qua PySem.F.plainAttrs_str PySem.F.slot_str_join PySem.F.type_str_join qnc qw4 ho (qc9 hc) hl
   | split=>exact qua PySem.F.plainAttrs_str PySem.F.slot_str_split PySem.F.type_str_split qkq qw4 ho (qc9 hc) hl
 | cons e es =>
   have hst':=hst
   rw[List.all_cons,Bool.and_eq_true]at hst'
   have h1:=qac (es:=es) (env:=X.env) hst'.1
   have h2:=qdw (pos:=q) (env:=X.env) hst'.2
   have h3:=qub (cpos:=q) (env:=X.env) hst hln
   cases m with
   | append=>exact q1n PySem.F.plainAttrs_list PySem.F.slot_list_append PySem.F.type_list_append qij q4o ho ha (qc9 hc) h3 hl h1 h2
   | join=>exact q1n PySem.F.plainAttrs_str PySem.F.slot_str_join PySem.F.type_str_join qnc qw4 ho ha (qc9 hc) h3 hl h1 h2
   | split=>exact q1n PySem.F.plainAttrs_str PySem.F.slot_str_split PySem.F.type_str_split qkq qw4 ho ha (qc9 hc) h3 hl h1 h2
theorem qxi {n:String} (h:tyn.contains n=true):bootBuiltins (n:Str)=some (.type n):=by
 have:n ∈ tyn:=by simpa using h
 simp only [tyn,List.mem_cons,List.not_mem_nil,or_false]at this
 rcases this with rfl | rfl | rfl | rfl | rfl | rfl
 · exact qwd
 · exact qs5
 · exact qs6
 · exact qk9
 · exact qmy
 · exact qwe
omit hcx in
theorem nb {p:Prop} (h:false=true):p:=nomatch h
omit hcx in
theorem an1 {a b:Bool} (h:(a && b)=true):a=true∧b=true:=Bool.and_eq_true_iff.mp h
omit hcx in
theorem an2 {a0 a1 a2:Bool} (h:(a0 && a1 && a2)=true):(a0=true∧a1=true)∧a2=true:=⟨an1 (an1 h).1,(an1 h).2⟩
omit hcx in
theorem an3 {a0 a1 a2 a3:Bool} (h:(a0 && a1 && a2 && a3)=true):((a0=true∧a1=true)∧a2=true)∧a3=true:=⟨an2 (an1 h).1,(an1 h).2⟩
omit hcx in
theorem an4 {a0 a1 a2 a3 a4:Bool} (h:(a0 && a1 && a2 && a3 && a4)=true):(((a0=true∧a1=true)∧a2=true)∧a3=true)∧a4=true:=⟨an3 (an1 h).1,(an1 h).2⟩
omit hcx in
theorem an5 {a0 a1 a2 a3 a4 a5:Bool} (h:(a0 && a1 && a2 && a3 && a4 && a5)=true):((((a0=true∧a1=true)∧a2=true)∧a3=true)∧a4=true)∧a5=true:=⟨an4 (an1 h).1,(an1 h).2⟩
omit hcx in
theorem an6 {a0 a1 a2 a3 a4 a5 a6:Bool} (h:(a0 && a1 && a2 && a3 && a4 && a5 && a6)=true):(((((a0=true∧a1=true)∧a2=true)∧a3=true)∧a4=true)∧a5=true)∧a6=true:=⟨an5 (an1 h).1,(an1 h).2⟩
omit hcx in
theorem an7 {a0 a1 a2 a3 a4 a5 a6 a7:Bool} (h:(a0 && a1 && a2 && a3 && a4 && a5 && a6 && a7)=true):((((((a0=true∧a1=true)∧a2=true)∧a3=true)∧a4=true)∧a5=true)∧a6=true)∧a7=true:=⟨an6 (an1 h).1,(an1 h).2⟩
omit hcx in
theorem an8 {a0 a1 a2 a3 a4 a5 a6 a7 a8:Bool} (h:(a0 && a1 && a2 && a3 && a4 && a5 && a6 && a7 && a8)=true):(((((((a0=true∧a1=true)∧a2=true)∧a3=true)∧a4=true)∧a5=true)∧a6=true)∧a7=true)∧a8=true:=⟨an7 (an1 h).1,(an1 h).2⟩
omit hcx in
theorem an9 {a0 a1 a2 a3 a4 a5 a6 a7 a8 a9:Bool} (h:(a0 && a1 && a2 && a3 && a4 && a5 && a6 && a7 && a8 && a9)=true):((((((((a0=true∧a1=true)∧a2=true)∧a3=true)∧a4=true)∧a5=true)∧a6=true)∧a7=true)∧a8=true)∧a9=true:=⟨an8 (an1 h).1,(an1 h).2⟩
omit hcx in
omit hcx in
omit hcx in
omit hcx in
omit hcx in
omit hcx in
omit hcx in
omit hcx in
omit hcx in
theorem emp {α:Type} {l:List α} (h:l.isEmpty=true):l=[]:=List.isEmpty_iff.mp h
omit hcx in
theorem q6w {α:Type} {o:Option α} (h:o.isNone=true):o=none:=Option.isNone_iff_eq_none.mp h
omit hcx in
theorem sA0 {s:Sx}:∀ (c:CL),qgg s c []=true→evA Φ s.fns c=fun _=>M.pure []
 | .nil,_=>by rw[evA]
 | .cons a r,h=>by exact nb h
include hcx
mutual
theorem sE:∀ (c:CE) {s:Sx} {X:Cx} {E':XK} {e:Expr},Gd CX Φ s X E'→qaj s c e=true→PE X e (tD (xw E') (evE Φ s.fns c))
 | .var i,s,X,E',e,G,h=>by
   cases e <;> first | exact nb h | skip
   rw[evE];exact G.var h
 | .int i,s,X,E',e,G,h=>by
   cases e <;> first | exact nb h | skip
   rename_i k _ _
   cases k <;> first | exact nb h | skip
   cases dec h;rw[evE];exact qd7 qh0 fun _ _=>rfl
 | .str i,s,X,E',e,G,h=>by
   cases e <;> first | exact nb h | skip
   rename_i k _ _
   cases k <;> first | exact nb h | skip
   cases dec h;rw[evE];exact qd7 qfx fun _ _=>rfl
 | .bl i,s,X,E',e,G,h=>by
   cases e <;> first | exact nb h | skip
   rename_i k _ _
   cases k <;> first | exact nb h | skip
   cases dec h;rw[evE];exact qd7 q2p fun _ _=>rfl
 | .non,s,X,E',e,G,h=>by
   cases e <;> first | exact nb h | skip
   rename_i k _ _
   cases k <;> first | exact nb h | skip
   rw[evE];exact qd7 qza fun _ _=>rfl
 | .ty n,s,X,E',e,G,h=>by
   cases e <;> first | exact nb h | skip
   rename_i x p
   replace h:=an2 h
   obtain ⟨⟨hx,hb⟩,hn⟩:=h
   obtain ⟨g1,g2,g3,g4⟩:=G.bl hb
   cases dec hx
   rw[evE]
   exact qd7 (qvx (v:=.ty n) g1 g4 (qxi hn) rfl g3 g2) fun _ _=>rfl
 | .bin new op a b,s,X,E',e,G,h=>by
   cases e <;> first | exact nb h | skip
   replace h:=an2 h
   cases dec h.1.1
   rw[evE]
   exact q6q (q0r _) (sE a G h.1.2) (sE b G h.2)
 | .cmp op a b,s,X,E',e,G,h=>by
   cases e <;> first | exact nb h | skip
   rename_i x os ys _
   rcases os with _ | ⟨o,_ | ⟨_,_⟩⟩ <;> first | exact nb h | skip
   rcases ys with _ | ⟨y,_ | ⟨_,_⟩⟩ <;> first | exact nb h | skip
   replace h:=an3 h
   cases dec h.1.1.1
   rw[evE]
   exact q3x (qf7 G.units _) (sE a G h.1.2) (sE b G h.2) (qil h.1.1.2)
 | .chain o p a b c,s,X,E',e,G,h=>by
   cases e <;> first | exact nb h | skip
   rename_i x os ys _
   rcases os with _ | ⟨o',_ | ⟨p',_ | ⟨_,_⟩⟩⟩ <;> first | exact nb h | skip
   rcases ys with _ | ⟨y,_ | ⟨z,_ | ⟨_,_⟩⟩⟩ <;> first | exact nb h | skip
   replace h:=an5 h
   cases dec h.1.1.1.1.1
   cases dec h.1.1.1.1.2
   rw[evE]
   exact qwr (qf7 G.units _) (qf7 G.units _) (sE a G h.1.1.2) (sE b G h.1.2) (sE c G h.2) (qko h.1.1.1.2)
 | .and a b,s,X,E',e,G,h=>by
   cases e <;> first | exact nb h | skip
   rename_i o xs _
   cases o <;> first | exact nb h | skip
   rcases xs with _ | ⟨x,_ | ⟨y,r⟩⟩ <;> first | exact nb h | skip
   replace h:=an1 h
   rw[evE];exact q31 (sE a G h.1) (sE b G h.2)
 | .or a b,s,X,E',e,G,h=>by
   cases e <;> first | exact nb h | skip
   rename_i o xs _
   cases o <;> first | exact nb h | skip
   rcases xs with _ | ⟨x,_ | ⟨y,r⟩⟩ <;> first | exact nb h | skip
   replace h:=an1 h
   rw[evE];exact q6r (sE a G h.1) (sE b G h.2)
 | .one a,s,X,E',e,G,h=>by
   cases e <;> first | exact nb h | skip
   rename_i op xs p
   rcases xs with _ | ⟨x,_ | ⟨_,_⟩⟩ <;> first | exact nb h | skip
   rw[evE];exact q30 (sE a G h)
 | .not a,s,X,E',e,G,h=>by
   cases e <;> first | exact nb h | skip
   rename_i o _ _
   cases o <;> first | exact nb h | skip
   rw[evE];exact q32 (sE a G h)
 | .ife c a b,s,X,E',e,G,h=>by
   cases e <;> first | exact nb h | skip
   replace h:=an2 h
   rw[evE];exact q33 (sB c G h.1.1) (sE a G h.1.2) (sE b G h.2)
 | .tup as,s,X,E',e,G,h=>by
   cases e <;> first | exact nb h | skip
   rw[evE];exact q35 (sA as G h)
 | .lst new as,s,X,E',e,G,h=>by
   cases e <;> first | exact nb h | skip
   rw[evE];exact q36 (sA as G h)
 | .ix a i,s,X,E',e,G,h=>by
   cases e <;> first | exact nb h | skip
   replace h:=an2 h
   rw[evE];exact q6s (q38 G.units1) (sE a G h.1.2) (sE i G h.2) (qne h.1.1)
 | .sl new a lo hi,s,X,E',e,G,h=>by
   cases e <;> first | exact nb h | skip
   rename_i _ y _
   cases y <;> first | exact nb h | skip
   rename_i st _
   cases st <;> first | exact nb h | skip
   replace h:=an2 h
   rw[evE];exact q6t (sE a G h.1.1) (sO lo G h.1.2) (sO hi G h.2)
 | .call j as,s,X,E',e,G,h=>by
   cases e <;> first | exact nb h | skip
   rename_i fn es ks q
   cases fn <;> first | exact nb h | skip
   cases ks <;> first | exact nb h | skip
   rename_i x p
   replace h:=an3 h
   obtain ⟨⟨⟨hg,hf⟩,hst⟩,ha⟩:=h
   obtain ⟨g1,g2,g3⟩:=G.gl hg
   split at hf
   · rename_i y n k hj
     simp only [Bool.and_eq_true]at hf
     obtain ⟨⟨h1,h2⟩,h3⟩:=hf
     cases dec h1
     obtain ⟨F,hF,FT⟩:=G.fns j x n k hj
     rw[evE]
     have hA:=sA as G ha
     have e1:qai Φ s.fns j=qaz n F:=by funext ds;unfold qai;rw[hF,hj]
     rw[e1]
     cases es with
     | nil =>
       have h2:n=0:=dec h2
       subst h2
       refine PE.mono (qw3 FT G.room (dec h3) g1 G.pass g2) fun σ H Q ⟨w,Γ,S,rel,hold,z⟩=>⟨w,Γ,S,rel,hold,?_⟩
       have:evA Φ s.fns as=fun _=>M.pure []:=sA0 as ha
       rw[this]at z
       exact z
     | cons e es =>
       have hst':=hst
       rw[List.all_cons,Bool.and_eq_true]at hst'
       exact q1l FT G.room (dec h3) g1 G.pass hA g2 (qac hst'.1) (qdw hst'.2)
   · cases hf
 | .bi b as,s,X,E',e,G,h=>by
   cases e <;> first | exact nb h | skip
   rename_i fn es ks q
   cases fn <;> first | exact nb h | skip
   cases ks <;> first | exact nb h | skip
   rename_i x p
   replace h:=an4 h
   obtain ⟨⟨⟨⟨h1,h2⟩,h3⟩,h4⟩,h5⟩:=h
   rw[evE]
   cases es with
   | nil=>cases h3
   | cons e es=>exact q4v G b h1 (dec h2) h4 (sA as G h5)
 | .mt m o as,s,X,E',e,G,h=>by
   cases e <;> first | exact nb h | skip
   rename_i fn es ks q
   cases fn <;> first | exact nb h | skip
   cases ks <;> first | exact nb h | skip
   replace h:=an6 h
   obtain ⟨⟨⟨⟨⟨⟨h1,h2⟩,h3⟩,h4⟩,h5⟩,h6⟩,h7⟩:=h
   rw[evE]
   exact q4w G m (dec h1) h2 h3 h4 (dec h5) (sE o G h6) (sA as G h7) fun z=>by subst z;exact sA0 as h7
 | .lc new n t i c el,s,X,E',e,G,h=>by
   cases e <;> first | exact nb h | skip
   rename_i x gs scope p
   rcases gs with _ | ⟨g,_ | ⟨_,_⟩⟩ <;> first | exact nb h | skip
   replace h:=an9 h
   obtain ⟨⟨⟨⟨⟨⟨⟨⟨⟨h1,h2⟩,h3⟩,h4⟩,h5⟩,h6⟩,h7⟩,h8⟩,h9⟩,h10⟩:=h
   obtain ⟨tg,it,ifs,asy⟩:=g
   dsimp only at h1 h2 h3 h4 h5 h8 h9 h10
   cases dec h1
   have hn:=dec h10
   subst hn
   rw[evE]
   generalize qry s.N tg=Mk at *
   generalize qnk tg=ts at *
   exact q6v (E2:=xw E0) (qlc G.hN G.hsc h2) G.calm (sI i G h4) (fun C fp s₀ H₀=>sG (s:=s.inner ts Mk scope) t (G.inner hcx h2 C fp s₀ H₀) h5) (fun C fp s₀ H₀=>sF (s:=s.inner ts Mk scope) c (G.inner hcx h2 C fp s₀ H₀) h8) (fun C fp s₀ H₀=>sE (s:=s.inner ts Mk scope) el (G.inner hcx h2 C fp s₀ H₀) h9) (qga h3)
     (fun k hk=>dec (List.all_eq_true.mp h6 k hk)) (qpi t h7)
 | .frz a,s,X,E',e,G,h=>by
   rw[evE];exact q4n (sE a G h)
 | .con x k,s,X,E',e,G,h=>by
   cases e <;> first | exact nb h | skip
   replace h:=an2 h
   obtain ⟨⟨h1,h2⟩,h3⟩:=h
   cases dec h1
   obtain ⟨g1,g2,_⟩:=G.gl h2
   obtain ⟨q,hq,e1⟩:=List.any_eq_true.mp h3
   cases dec e1
   obtain ⟨t,ht⟩:=G.md.gs _ hq
   rw[evE];exact q4p g1 ht g2
 | .itm x tab a,s,X,E',e,G,h=>by
   cases e <;> first | exact nb h | skip
   rename_i z i q
   cases z <;> first | exact nb h | skip
   replace h:=an4 h
   obtain ⟨⟨⟨⟨h1,h2⟩,h3⟩,h4⟩,h5⟩:=h
   cases dec h1
   obtain ⟨g1,g2,_⟩:=G.gl h2
   obtain ⟨q,hq,e1⟩:=List.any_eq_true.mp h3
   cases dec e1
   obtain ⟨c,hm,T⟩:=G.md.ds _ hq
   rw[evE];exact q4q g1 hm T (sE a G h5) (fun o i=>qne h4 o i) g2
 | .lenK kt as,s,X,E',e,G,h=>by
   cases e <;> first | exact nb h | skip
   rename_i fn es ks q
   cases fn <;> first | exact nb h | skip
   cases ks <;> first | exact nb h | skip
   rename_i x p
   replace h:=an5 h
   obtain ⟨⟨⟨⟨⟨h1,h2⟩,h3⟩,h4⟩,h5⟩,h6⟩:=h
   cases dec h5
   cases dec h2
   obtain ⟨g1,g2,g3,g4⟩:=G.bl h1
   rw[evE]
   cases es with
   | nil=>cases h3
   | cons e es =>
     rw[List.all_cons,Bool.and_eq_true]at h4
     exact qhm (qxb G.md.kt) g1 g4 qs7 (sA as G h6) g3 g2 (qac h4.1) (qdw h4.2)
 | .dget tab dflt a,s,X,E',e,G,h=>by
   cases e <;> first | exact nb h | skip
   rename_i fn es ks q
   rcases es with _ | ⟨e,_ | ⟨d,_ | ⟨_,_⟩⟩⟩ <;> first | exact nb h | skip
   cases ks <;> first | exact nb h | skip
   cases fn <;> first | exact nb h | skip
   rename_i o m ap
   cases o <;> first | exact nb h | skip
   rename_i kk vv dp
   replace h:=an1 h
   obtain ⟨h',h7⟩:=h
   replace h':=an5 h'
   obtain ⟨⟨⟨⟨⟨h1,h2⟩,h3⟩,h4⟩,h5⟩,h6⟩:=h'
   cases dec h1
   obtain ⟨j,pd,rfl⟩:=qge (dec h4)
   rw[evE]
   exact q1q G.units1 h2 h3 (sE a G h7) (q4s rfl h5 rfl h6)
theorem sB:∀ (c:CB) {s:Sx} {X:Cx} {E':XK} {e:Expr},Gd CX Φ s X E'→qgf s c e=true→PT X e (tB (xw E') (evB Φ s.fns c))
 | .cmp op a b,s,X,E',e,G,h=>by
   cases e <;> first | exact nb h | skip
   rename_i x os ys _
   rcases os with _ | ⟨o,_ | ⟨_,_⟩⟩ <;> first | exact nb h | skip
   rcases ys with _ | ⟨y,_ | ⟨_,_⟩⟩ <;> first | exact nb h | skip
   replace h:=an3 h
   cases dec h.1.1.1
   rw[evB]
   exact q0x (qf7 G.units _) (sE a G h.1.2) (sE b G h.2) (qil h.1.1.2)
 | .chain o p a b c,s,X,E',e,G,h=>by
   cases e <;> first | exact nb h | skip
   rename_i x os ys _
   rcases os with _ | ⟨o',_ | ⟨p',_ | ⟨_,_⟩⟩⟩ <;> first | exact nb h | skip
   rcases ys with _ | ⟨y,_ | ⟨z,_ | ⟨_,_⟩⟩⟩ <;> first | exact nb h | skip
   replace h:=an5 h
   cases dec h.1.1.1.1.1
   cases dec h.1.1.1.1.2
   rw[evB]
   exact qts (qf7 G.units _) (qf7 G.units _) (sE a G h.1.1.2) (sE b G h.1.2) (sE c G h.2) (qko h.1.1.1.2)
 | .and a b,s,X,E',e,G,h=>by
   cases e <;> first | exact nb h | skip
   rename_i o xs _
   cases o <;> first | exact nb h | skip
   rcases xs with _ | ⟨x,_ | ⟨y,r⟩⟩ <;> first | exact nb h | skip
   replace h:=an1 h
   rw[evB];exact(qtu (sB a G h.1) (sW b G h.2)).pt
 | .or a b,s,X,E',e,G,h=>by
   cases e <;> first | exact nb h | skip
   rename_i o xs _
   cases o <;> first | exact nb h | skip
   rcases xs with _ | ⟨x,_ | ⟨y,r⟩⟩ <;> first | exact nb h | skip
   replace h:=an1 h
   rw[evB];exact(qyx (sB a G h.1) (sW b G h.2)).pt
 | .one a,s,X,E',e,G,h=>by
   cases e <;> first | exact nb h | skip
   rename_i op xs p
   rcases xs with _ | ⟨x,_ | ⟨_,_⟩⟩ <;> first | exact nb h | skip
   rw[evB]
   cases op with
   | And=>exact(qtt (sB a G h)).pt
   | Or=>exact(qyw (sB a G h)).pt
 | .not a,s,X,E',e,G,h=>by
   cases e <;> first | exact nb h | skip
   rename_i o _ _
   cases o <;> first | exact nb h | skip
   rw[evB];exact q01 (sB a G h)
 | .tru a,s,X,E',e,G,h=>by
   replace h:=an1 h
   rw[evB];exact q3y (sE a G h.2) (qw5 h.1)
 | .nin x tab a,s,X,E',e,G,h=>by
   cases e <;> first | exact nb h | skip
   rename_i i os ys _
   rcases os with _ | ⟨o,_ | ⟨_,_⟩⟩ <;> first | exact nb h | skip
   rcases ys with _ | ⟨z,_ | ⟨_,_⟩⟩ <;> first | exact nb h | skip
   cases z <;> first | exact nb h | skip
   replace h:=an4 h
   obtain ⟨⟨⟨⟨h0,h1⟩,h2⟩,h3⟩,h5⟩:=h
   cases dec h0
   cases dec h1
   obtain ⟨g1,g2,_⟩:=G.gl h2
   obtain ⟨q,hq,e1⟩:=List.any_eq_true.mp h3
   cases dec e1
   obtain ⟨c,hm,T⟩:=G.md.ds _ hq
   rw[evB];exact q4r g1 hm T (sE a G h5) g2
theorem sW:∀ (c:CB) {s:Sx} {X:Cx} {E':XK} {op:BoolOp} {es:List Expr} {p:Pos},Gd CX Φ s X E'→qgf s c (.BoolOp op es p)=true→PW X (.BoolOp op es p) (tB (xw E') (evB Φ s.fns c))
 | .cmp _ a b,s,X,E',op,es,p,G,h=>by exact nb h
 | .chain _ _ a b c,s,X,E',op,es,p,G,h=>by exact nb h
 | .and a b,s,X,E',op,es,p,G,h=>by
   cases op <;> first | exact nb h | skip
   rcases es with _ | ⟨x,_ | ⟨y,r⟩⟩ <;> first | exact nb h | skip
   replace h:=an1 h
   rw[evB];exact qtu (sB a G h.1) (sW b G h.2)
 | .or a b,s,X,E',op,es,p,G,h=>by
   cases op <;> first | exact nb h | skip
   rcases es with _ | ⟨x,_ | ⟨y,r⟩⟩ <;> first | exact nb h | skip
   replace h:=an1 h
   rw[evB];exact qyx (sB a G h.1) (sW b G h.2)
 | .one a,s,X,E',op,es,p,G,h=>by
   rcases es with _ | ⟨x,_ | ⟨_,_⟩⟩ <;> first | exact nb h | skip
   rw[evB]
   cases op with
   | And=>exact qtt (sB a G h)
   | Or=>exact qyw (sB a G h)
 | .not a,s,X,E',op,es,p,G,h=>by exact nb h
 | .tru a,s,X,E',op,es,p,G,h=>by
   replace h:=an1 h
   cases h.1
 | .nin _ _ a,s,X,E',op,es,p,G,h=>by exact nb h
theorem sF:∀ (c:CF) {s:Sx} {X:Cx} {E':XK} {es:List Expr},Gd CX Φ s X E'→q4u s c es=true→PF X es (tB (xw E') (evF Φ s.fns c))
 | .yes,s,X,E',es,G,h=>by
   have:es=[]:=emp h
   subst this
   rw[evF];exact q4k
 | .if_ a,s,X,E',es,G,h=>by
   rcases es with _ | ⟨x,_ | ⟨_,_⟩⟩ <;> first | exact nb h | skip
   rw[evF];exact q4l (sB a G h)
theorem sA:∀ (c:CL) {s:Sx} {X:Cx} {E':XK} {es:List Expr},Gd CX Φ s X E'→qgg s c es=true→PA X es (tL (xw E') (evA Φ s.fns c))
 | .nil,s,X,E',es,G,h=>by
   have:es=[]:=emp h
   subst this
   rw[evA];exact q34
 | .cons a r,s,X,E',es,G,h=>by
   rcases es with _ | ⟨x,xs⟩ <;> first | exact nb h | skip
   replace h:=an2 h
   rw[evA];exact q03 (sE a G h.1.2) (sA r G h.2) (qac h.1.1)
theorem sO:∀ (c:CO) {s:Sx} {X:Cx} {E':XK} {o:Option Expr},Gd CX Φ s X E'→q1v s c o=true→PO X o (tO (xw E') (evO Φ s.fns c))
 | .no,s,X,E',o,G,h=>by
   have:o=none:=q6w h
   subst this
   rw[evO];exact qwv
 | .at_ a,s,X,E',o,G,h=>by
   cases o <;> first | exact nb h | skip
   rw[evO];exact qww (sE a G h)
theorem sI:∀ (c:CI) {s:Sx} {X:Cx} {E':XK} {t e:Expr},Gd CX Φ s X E'→q1w s c t e=true→PI X t e (tI (xw E') (evI Φ s.fns c))
 | .seq a,s,X,E',t,e,G,h=>by
   rw[evI];exact q4g (sE a G h)
 | .rng1 as,s,X,E',t,e,G,h=>by
   cases e <;> first | exact nb h | skip
   rename_i fn es ks q
   cases fn <;> first | exact nb h | skip
   rcases es with _ | ⟨y,_ | ⟨_,_⟩⟩ <;> first | exact nb h | skip
   cases ks <;> first | exact nb h | skip
   replace h:=an3 h
   obtain ⟨⟨⟨h1,h2⟩,h3⟩,h4⟩:=h
   obtain ⟨g1,g2,g3,g4⟩:=G.bl h2
   cases dec h1
   rw[evI];exact q1j g1 g4 (sA as G h4) (qac h3)
 | .zip as,s,X,E',t,e,G,h=>by
   cases e <;> first | exact nb h | skip
   rename_i fn es ks q
   cases fn <;> first | exact nb h | skip
   rcases es with _ | ⟨y,_ | ⟨z,_ | ⟨_,_⟩⟩⟩ <;> first | exact nb h | skip
   cases ks <;> first | exact nb h | skip
   replace h:=an5 h
   obtain ⟨⟨⟨⟨⟨h0,h1⟩,h2⟩,h3⟩,h3'⟩,h4⟩:=h
   obtain ⟨g1,g2,g3,g4⟩:=G.bl h2
   cases dec h1
   rw[evI]
   cases t <;> first | (cases h0;done) | exact q4h g1 g4 (sA as G h4) (by rw[qac h3,qac h3'];rfl) (qac h3')
 | .chars a,s,X,E',t,e,G,h=>by
   rw[evI];exact qxc (sE a G h)
 | .zipK kt as,s,X,E',t,e,G,h=>by
   cases e <;> first | exact nb h | skip
   rename_i fn es ks q
   cases fn <;> first | exact nb h | skip
   rcases es with _ | ⟨y,_ | ⟨z,_ | ⟨_,_⟩⟩⟩ <;> first | exact nb h | skip
   cases ks <;> first | exact nb h | skip
   replace h:=an6 h
   obtain ⟨⟨⟨⟨⟨⟨h0,h1⟩,h2⟩,h3⟩,h3'⟩,hk⟩,h4⟩:=h
   obtain ⟨g1,g2,g3,g4⟩:=G.bl h2
   cases dec h1
   cases dec hk
   rw[evI]
   cases t <;> first | (cases h0;done) | exact q1p G.md.kt g1 g4 (sA as G h4) (by rw[qac h3,qac h3'];rfl) (qac h3')
theorem sG:∀ (c:CG) {s:Sx} {X:Cx} {E':XK} {e:Expr},Gd CX Φ s X E'→qul s c e=true→PG X e (tG (xw E') (tgs c) (evG Φ s.fns c))
 | .nm i,s,X,E',e,G,h=>by
   cases e <;> first | exact nb h | skip
   obtain ⟨a,b,c⟩:=G.lc h
   rw[evG,tgs];exact q1f (by rw[G.hN];exact G.nd) a b c
 | .tg ts,s,X,E',e,G,h=>by
   cases e <;> first | exact nb h | skip
   replace h:=an2 h
   rw[evG,tgs];exact q4c G.calm (sT ts G h.2) (by rw[qkp];exact dec h.1.2) (qnf h.1.1)
 | .sub o i,s,X,E',e,G,h=>by
   cases e <;> first | exact nb h | skip
   replace h:=an2 h
   rw[evG,tgs];exact q4e G.units1 (sE o G h.1.2) (sE i G h.2) (qw7 h.1.1)
theorem sT:∀ (c:CT) {s:Sx} {X:Cx} {E':XK} {es:List Expr},Gd CX Φ s X E'→q1x s c es=true→PGs X es (tGs (xw E') (quk c) (evT Φ s.fns c))
 | .nil,s,X,E',es,G,h=>by
   have:es=[]:=emp h
   subst this
   rw[evT,quk];exact q4b
 | .cons a r,s,X,E',es,G,h=>by
   rcases es with _ | ⟨x,xs⟩ <;> first | exact nb h | skip
   replace h:=an2 h
   rw[evT,quk];exact q1g (sG a G h.1.2) (sT r G h.2) (by rw[qgb h.1.1];rfl)
end
end
noncomputable def q4x:CE→Bool
 | .lc _ _ _ _ _ _=>true
 | _=>false
noncomputable def q4y (s:Sx) (e:CE) (v:Expr) (x:Str) (p:Pos):Bool:=match v with
 | .ListComp _ _ scope q=>q4x e || !swB s.sc scope q.line p.line x
 | .DictComp _ _ _ scope q=> !swB s.sc scope q.line p.line x
 | _=>qd9 v
mutual
noncomputable def qpk (s:Sx):CS→Stmt→Bool
 | .ex a,st=>match st with
   | .Expr e _=>qd9 e && qaj s a e
   | _=>false
 | .ret a,st=>match st with
   | .Return (some e) _=>qaj s a e
   | _=>false
 | .sif c a b,st=>match st with
   | .If z x y _=>qgf s c z && qin s a x && qin s b y
   | _=>false
 | .asg t e,st=>match st with
   | .Assign [g] v _=>notStar g && qd9 v && (qlp g || qlp v) && qul s t g && qaj s e v
   | _=>false
 | .set i e,st=>match st with
   | .Assign [.Name x p] v _=>qgx s i x && q4y s e v x p && qaj s e v
   | _=>false
 | .augIx op o i e,st=>match st with
   | .AugAssign (.Subscript x y _) q v _=>decide (op=q) && qcf y && qaj s o x && qaj s i y && qaj s e v
   | _=>false
 | .sfor t i b,st=>match st with
   | .For g it x [] _=>qc8 it && q1w s i g it && qul s t g && qin s b x
   | _=>false
 | .rse,st=>match st with
   | .Raise _ _ _=>true
   | _=>false
noncomputable def qin (s:Sx):CSL→List Stmt→Bool
 | .nil,ss=>ss.isEmpty
 | .cons a r,ss=>match ss with
   | x::xs=>qpk s a x && qin s r xs
   | []=>false
end
section
variable {CX:CXT} {Φ:List Fd} (hcx:qlr CX)
include hcx
theorem q1y {s:Sx} {X:Cx} {E':XK} {i:Nat} {e:CE} {x:Str} {p q:Pos} {v:Expr} (G:Gd CX Φ s X E') (h1:qgx s i x=true) (h2:q4y s e v x p=true) (h3:qaj s e v=true):PS X (.Assign [.Name x p] v q) (tS (xw E') fun Γ=>M.bind (evE Φ s.fns e Γ) fun d=>M.pure (.nx,Γ.set i (some d))):=by
 obtain ⟨a,b,c⟩:=G.lc h1
 have nd:X.N.Nodup:=by rw[G.hN];exact G.nd
 have other:qd9 v=true→PS X (.Assign [.Name x p] v q) (tS (xw E') fun Γ=>M.bind (evE Φ s.fns e Γ) fun d=>M.pure (.nx,Γ.set i (some d))):=fun h2=>qt3 nd a b (sE hcx e G h3) (qdx h2) c
 cases v <;> first | exact other h2 | skip
 case ListComp el gens scope pos =>
   replace h2:=Bool.or_eq_true_iff.mp h2
   by_cases hw:swB s.sc scope pos.line p.line x=true
   · have hl:q4x e=true:=by
       rcases h2 with z | z
       · exact z
       · rw[hw]at z;cases z
     cases e <;> first | (cases hl;done) | skip
     rename_i new n t i' cf ce
     rcases gens with _ | ⟨g,_ | ⟨_,_⟩⟩ <;> first | exact nb h3 | skip
     · replace h3:=an9 h3
       obtain ⟨⟨⟨⟨⟨⟨⟨⟨⟨k1,k2⟩,k3⟩,k4⟩,k5⟩,k6⟩,k7⟩,k8⟩,k9⟩,k10⟩:=h3
       obtain ⟨tg,it,ifs,asy⟩:=g
       dsimp only at k1 k2 k3 k4 k5 k8 k9 k10
       cases dec k1
       have hn:=dec k10
       subst hn
       rw[evE]
       generalize qry s.N tg=Mk at *
       generalize qnk tg=ts at *
       exact qw2 (E2:=xw E0) nd a b (qlc G.hN G.hsc k2) G.calm (sI hcx i' G k4) (fun C fp s₀ H₀=>sG (s:=s.inner ts Mk scope) hcx t (G.inner hcx k2 C fp s₀ H₀) k5) (fun C fp s₀ H₀=>sF (s:=s.inner ts Mk scope) hcx cf (G.inner hcx k2 C fp s₀ H₀) k8)
         (fun C fp s₀ H₀=>sE (s:=s.inner ts Mk scope) hcx ce (G.inner hcx k2 C fp s₀ H₀) k9) (qga k3) (by rw[quc,G.hsc,hw]) c (fun k hk=>dec (List.all_eq_true.mp k6 k hk)) (qpi t k7)
   · exact qt3 nd a b (sE hcx e G h3) (by rw[quc,G.hsc];simp only [Bool.not_eq_true]at hw;rw[hw]) c
 case DictComp kx el gens scope pos =>
   have hw:swB s.sc scope pos.line p.line x=false:=by simpa using (show (!swB s.sc scope pos.line p.line x)=true from h2)
   exact qt3 nd a b (sE hcx e G h3) (by rw[qw8,G.hsc,hw]) c
mutual
theorem sS:∀ (c:CS) {s:Sx} {X:Cx} {E':XK} {st:Stmt},Gd CX Φ s X E'→qpk s c st=true→PS X st (tS (xw E') (evS Φ s.fns c))
 | .ex a,s,X,E',st,G,h=>by
   cases st <;> first | exact nb h | skip
   replace h:=an1 h
   rw[evS];exact q1d (sE hcx a G h.2) (qdx h.1)
 | .ret a,s,X,E',st,G,h=>by
   cases st <;> first | exact nb h | skip
   rename_i o _
   cases o <;> first | exact nb h | skip
   rw[evS];exact q4a (sE hcx a G h)
 | .sif c a b,s,X,E',st,G,h=>by
   cases st <;> first | exact nb h | skip
   replace h:=an2 h
   rw[evS];exact q6u (sB hcx c G h.1.1) (sL a G h.1.2) (sL b G h.2)
 | .asg t e,s,X,E',st,G,h=>by
   cases st <;> first | exact nb h | skip
   rename_i gs v _
   rcases gs with _ | ⟨g,_ | ⟨_,_⟩⟩ <;> first | exact nb h | skip
   replace h:=an4 h
   obtain ⟨⟨⟨⟨h1,h2⟩,h3⟩,h4⟩,h5⟩:=h
   rw[evS];exact q4d (sE hcx e G h5) (sG hcx t G h4) (qw6 h2) (qrv h3) (by rw[qgb h1];rfl)
 | .set i e,s,X,E',st,G,h=>by
   cases st <;> first | exact nb h | skip
   rename_i gs v _
   rcases gs with _ | ⟨g,tl⟩ <;> first | exact nb h | skip
   cases g <;> first | exact nb h | skip
   cases tl <;> first | exact nb h | skip
   replace h:=an2 h
   rw[evS];exact q1y hcx G h.1.1 h.1.2 h.2
 | .augIx op o i e,s,X,E',st,G,h=>by
   cases st <;> first | exact nb h | skip
   rename_i g o v _
   cases g <;> first | exact nb h | skip
   replace h:=an4 h
   obtain ⟨⟨⟨⟨h1,h2⟩,h3⟩,h4⟩,h5⟩:=h
   cases dec h1
   rw[evS];exact qw1 G.units1 (sE hcx o G h3) (sE hcx i G h4) (sE hcx e G h5) (q1o h2)
 | .sfor t i b,s,X,E',st,G,h=>by
   cases st <;> first | exact nb h | skip
   rename_i g it b' els _
   cases els <;> first | exact nb h | skip
   replace h:=an3 h
   obtain ⟨⟨⟨h1,h2⟩,h3⟩,h4⟩:=h
   rw[evS];exact q4i G.own G.calm (sI hcx i G h2) (sG hcx t G h3) (sL b G h4) (qga h1)
 | .rse,s,X,E',st,G,h=>by
   rw[evS];exact fun pins s σ H D I ⟨w,Γ,S,rel,hold,q⟩=>False.elim q
theorem sL:∀ (c:CSL) {s:Sx} {X:Cx} {E':XK} {ss:List Stmt},Gd CX Φ s X E'→qin s c ss=true→PSs X ss (tS (xw E') (qaf Φ s.fns c))
 | .nil,s,X,E',ss,G,h=>by
   have:ss=[]:=emp h
   subst this
   rw[qaf];exact q39
 | .cons a r,s,X,E',ss,G,h=>by
   rcases ss with _ | ⟨x,xs⟩ <;> first | exact nb h | skip
   replace h:=an1 h
   rw[qaf];exact qlk (sS a G h.1) (sL r G h.2)
end
end
theorem nw0:qlr CX0:=fun _ _ _ _ _ h=>h
section
variable {P:Program} {w:World} {K:PySem.W.Frag} {mg:Str→Option Value} {base:Heap}
inductive FT (CX:CXT) (P:Program) (w:World) (K:PySem.W.Frag) (mg:Str→Option Value) (base:Heap):List (Str × Nat × Nat)→List Fd→Prop where
 | nil:FT CX P w K mg base [] []
 | cons {x:Str} {n k:Nat} {F:Fd} {r:List (Str × Nat × Nat)} {Φ:List Fd}:FnT CX P w K mg base x n k F→FT CX P w K mg base r Φ→FT CX P w K mg base ((x,n,k)::r) (F::Φ)
theorem FT.get {CX:CXT}:∀ {r:List (Str × Nat × Nat)} {Φ:List Fd},FT CX P w K mg base r Φ→∀ (j:Nat) (x:Str) (n k:Nat),r[j]? =some (x,n,k)→∃ F,Φ[j]? =some F∧FnT CX P w K mg base x n k F
 | _,_,.nil,j,x,n,k,e=>by simp at e
 | _,_,.cons h t,0,x,n,k,e=>by
   simp at e
   obtain ⟨rfl,rfl,rfl⟩:=e
   exact⟨_,rfl,h⟩
 | _,_,.cons h t,j+1,x,n,k,e=>by
   obtain ⟨F,e1,e2⟩:=t.get j x n k (by simpa using e)
   exact⟨F,by simpa using e1,e2⟩
theorem qio {Φ:List Fd} {s:Sx} {N ps:List Str} {qual:Str} {sc:Scope} {f:Addr} {cdv:Value} {A:Around} {outer:List PySem.Env} {s₀:Shared} {H:Hp} {E E':XK} (S:qan N ps sc) (hN:s.N=N) (hsc:s.sc=sc) (hf:s.fnb=fun _=>true) (hr:qaw s.L (A.deeper (envOfC qual sc s₀.heap.objs.size f cdv)))
   (hb:∀ b ∈ s.bs,mg b=none) (hm:qim P w K mg s.md) (hF:FT CX0 P w K mg base s.fns Φ):Gd CX0 Φ s (qa8 CX0 P w K mg base N qual sc f cdv A outer s₀ H E).nox E' where
 hN:=hN.symm
 hsc:=hsc.symm
 hfn:=hf.symm
 calm:=rfl
 room:=hr
 own:=PassesOwn.never
 pass:=fun _ _ _ _ _ _ _ h=>False.elim h
 nd:=by rw[hN];exact S.nd
 blt:=hb
 md:=hm
 fns:=fun j x n k e=>hF.get j x n k e
theorem q1z {x qual:Str} {st:Stmt} {f:Addr} {fd:FuncData} {N ps:List Str} {k:Nat} {c:CSL} {fns:List (Str × Nat × Nat)} {Φ:List Fd} {bs:List Str} {md:Md} (F:Fun K x qual st f fd) (S:qan N ps (qb st)) (hb:∀ b ∈ bs,mg b=none) (hm:qim P w K mg md) (hF:FT CX0 P w K mg base fns Φ)
   (h:qin ⟨N,qb st,fun _=>true,fns,k,bs,md⟩ c (qq st)=true):qay P w K mg base CX0 (k+1) f fd ps (spT ps.length (qcj (qaf Φ fns c) (N.length - ps.length))) :=
 q4m F S fun cdv A outer s H E hr=>sL nw0 c (qio (s:=⟨N,qb st,fun _=>true,fns,k,bs,md⟩) S rfl rfl rfl hr hb hm hF) h
theorem qun {x:Str} {n k:Nat} {F:Fd} {f:Addr} {fd:FuncData} {ps:List Str} (G:qay P w K mg base CX0 k f fd ps (spT n F)) (m:mg x=some (.ref f)) (kp:PySem.W.keepIn K (.ref f)=true) (b:Binds K fd ps []):FnT CX0 P w K mg base x n k F:=⟨f,fd,ps,G,m,kp,b⟩
noncomputable def sp_law (K:PySem.W.Frag):Sp:=fun vs H Q _=>∃ (a:Addr) (ns:List Int),vs=[.ref a]∧SqL K H a (ns.map V.int)∧ns.length≤63∧∀ H',Q (.bl true) H'
noncomputable def sp_box (K:PySem.W.Frag):Sp:=fun vs H Q _=>∃ (a:Addr) (ns:List Int),vs=[.ref a]∧SqL K H a (ns.map V.int)∧ns.length≤63 ∧
 ∀ (b c:Addr) (ms:List Int) (H':Hp),H b=none→H c=none→c ≠ b→qev H H'→H' b=some (.lst [.ref c,.int 0,.int 0,.int 17])→H' c=some (.lst (ms.map V.int))→Q (.ref b) H'
noncomputable def quo (ms:List Int):Cell:=.lst [.lst (ms.map D.int),.int 0,.int 0,.int 17]
theorem qf.ints {w:Wd} {H:Hp}:∀ (ms:List Int),qf w H (ms.map D.int) (ms.map V.int)
 | []=>rfl
 | m::ms=>⟨_,_,rfl,rfl,qf.ints ms⟩
theorem q10 {st:Stmt} {rest:List Stmt} {f:Addr} {fd:FuncData} {N:List Str} {bx:Str} {p1 p2 p3 p4 p5:Pos} {k kb:Nat} {c:CSL} {fns:List (Str × Nat × Nat)} {Φ:List Fd} {bs:List Str} {md:Md} (F:Fun K "law" "law" st f fd) (S:qan N ["_law_script"] (qb st))
   (hst:qq st=.Assign [.Name bx p1] (.Call (.Name "_law_box" p2) [.Name "_law_script" p3] [] p4) p5::rest) (hx:qgx ⟨N,qb st,fun _=>true,fns,k,bs,md⟩ 1 bx=true) (hy:qa9 ⟨N,qb st,fun _=>true,fns,k,bs,md⟩ 0 "_law_script"=true) (hg:qdz ⟨N,qb st,fun _=>true,fns,k,bs,md⟩ "_law_box"=true)
   (Gb:Fn P w K mg base "_law_box" ["_law_script"] kb (sp_box K)) (hk:kb≤k) (hb:∀ b ∈ bs,mg b=none) (hm:qim P w K mg md) (hF:FT CX0 P w K mg base fns Φ) (h:qin ⟨N,qb st,fun _=>true,fns,k,bs,md⟩ c rest=true)
   (hl:∀ (a:Addr) (ms:List Int),∃ Γ' S',qaf Φ fns c (some (.at_ a)::some (.ref 0)::List.replicate (N.length - 2) none) [quo ms]=.ok (.rt (.bl true),Γ') S'):qay P w K mg base CX0 (k+1) f fd ["_law_script"] (sp_law K):=by
 refine F.ok S (fun vs H Q E h=> ?_) (fun cdv A outer s H vs Q E hr h'=> ?_)
 · obtain ⟨a,ns,rfl,_⟩:=h
   rfl
 · obtain ⟨a,ns,rfl,hS,hlen,kq⟩:=h'
   have G:Gd CX0 Φ ⟨N,qb st,fun _=>true,fns,k,bs,md⟩ (qa8 CX0 P w K mg base N "law" (qb st) f cdv A outer s H E).nox E0:=qio S rfl rfl rfl hr hb hm hF
   obtain ⟨g1,g2,g3⟩:=G.lc hx
   obtain ⟨g4,g5,g6⟩:=G.gl hg
   have hy':=hy
   unfold qa9 at hy'
   simp only [Bool.and_eq_true,Bool.not_eq_true',decide_eq_true_eq]at hy'
   have h0:PE (qa8 CX0 P w K mg base N "law" (qb st) f cdv A outer s H E).nox (.Name "_law_script" p3) (qhy 0):=qhz hy'.1.1.1 (qlq hy'.1.1.2) hy'.1.2 hy'.2
   have h1:=q3g (pos:=p4) (p:=p2) Gb hr hk g4 (qah h0 qc6 rfl) g5 rfl rfl
   have h2:=sL nw0 c G h
   refine⟨_,by rw[hst];exact qdm (qos (i:=1) (pos:=p5) (pos':=p1) S.nd g1 g2 h1 rfl g3) h2,?_⟩
   refine⟨.ref a,rfl,a,ns,rfl,hS,hlen,fun b c' ms H' hb hc hne hs e1 e2=> ?_⟩
   have hN2:2≤N.length:=by have:=(List.getElem?_eq_some_iff.mp g1).1;exact this
   have hsz:(L2.start N [V.ref a]).set 1 (some (.ref b))=some (.ref a)::some (.ref b)::List.replicate (N.length - 2) none:=by
     unfold L2.start
     obtain ⟨m,hm⟩:∃ m,N.length=m+2:=⟨N.length - 2,by omega⟩
     rw[hm]
     simp [List.replicate_succ]
   obtain ⟨Γ',S',he⟩:=hl a ms
   refine⟨⟨[b],fun z=>z=c'⟩,some (.at_ a)::some (.ref 0)::List.replicate (N.length - 2) none,[quo ms],?_,?_,?_⟩
   · rw[hsz]
     refine⟨by simp,fun i d e=> ?_⟩
     match i with
     | 0=>simp at e;subst e;exact⟨.ref a,rfl,rfl⟩
     | 1=>simp at e;subst e;exact⟨.ref b,rfl,b,rfl,rfl⟩
     | i+2=>simp [List.getElem?_replicate]at e
   · refine⟨fun z hz=>by rw[hz,e2];simp,rfl,by simp,fun z hz=>by rw[List.mem_singleton.mp hz,e1];simp,fun l a' cc ea ec=> ?_⟩
     match l with
     | 0 =>
       simp at ea ec
       subst ea ec
       exact⟨Ne.symm hne,_,e1,⟨_,_,rfl,⟨c',_,rfl,rfl,e2,qf.ints ms⟩,_,_,rfl,rfl,_,_,rfl,rfl,_,_,rfl,rfl,rfl⟩⟩
     | l+1=>simp at ea
   · rw[he]
     intro w' H'' _ _ v rv
     cases (show v=.bl true from rv)
     exact kq _
end
theorem len0 {α:Type} {P:List α→Prop} (h:P []):∀ us:List α,us.length=0→P us
 | [],_=>h
 | _::_,e=>by cases e
theorem qip {α:Type} {P:List α→Prop} (h:∀ a,P [a]):∀ us:List α,us.length=1→P us
 | [],e=>by cases e
 | a::r,e=>len0 (P:=fun r=>P (a::r)) (h a) r (Nat.succ.inj e)
theorem qls {α:Type} {P:List α→Prop} (h:∀ a b,P [a,b]):∀ us:List α,us.length=2→P us
 | [],e=>by cases e
 | a::r,e=>qip (P:=fun r=>P (a::r)) (h a) r (Nat.succ.inj e)
theorem q6x {α:Type} {P:List α→Prop} (h:∀ a b c,P [a,b,c]):∀ us:List α,us.length=3→P us
 | [],e=>by cases e
 | a::r,e=>qls (P:=fun r=>P (a::r)) (h a) r (Nat.succ.inj e)
noncomputable def q11 (N P:List Str) (sc:Scope):Bool:=decide (sc.kind=.function) && !sc.isCoroutine && !sc.isGenerator && decide N.Nodup && decide (N.take P.length=P) && (P.all fun x=>decide (sc.names.lookup x=some .local) || decide (sc.names.lookup x=some .cell)) && sc.names.all fun y=>decide (y.2 ≠ .free)
theorem qcl {N P:List Str} {sc:Scope} (h:q11 N P sc=true):qan N P sc:=by
 simp only [q11,Bool.and_eq_true,Bool.not_eq_true',decide_eq_true_eq,List.all_eq_true,Bool.or_eq_true]at h
 obtain ⟨⟨⟨⟨⟨⟨h1,h2⟩,h3⟩,h4⟩,h5⟩,h6⟩,h7⟩:=h
 exact⟨h1,h2,h3,h4,h5,h6,h7⟩
noncomputable def dOk (N P:List Str) (st:Stmt) (fns:List (Str × Nat × Nat)) (k:Nat) (bs:List Str) (md:Md) (c:CSL):Bool:=q11 N P (qb st) && qin ⟨N,qb st,fun _=>true,fns,k,bs,md⟩ c (qq st)
section
variable {P:Program} {w:World} {K:PySem.W.Frag} {mg:Str→Option Value} {base h:Heap} {x:Str} {f:Addr} {st:Stmt} {oc kV dc pm cd ct:Value} {od an:Option Addr} {sl:Array (Option Value)} {N ps:List Str} {k:Nat} {c:CSL} {fns:List (Str × Nat × Nat)} {Φ:List Fd} {md:Md} {bs:List Str}
theorem qbq (X:K.In h) (G:h.Ns mainGlobals mg) (a:PySem.W.nsIn K mainGlobals x=some (some (.ref f))) (l:K.lookup f=some ⟨oc,od,.func (PySem.W.fnOf x x (qau st) (qq st) (qb st) .none kV dc pm an cd ct),sl⟩) (q:PySem.W.codeIn K cd x=true) (kp:PySem.W.keepIn K (.ref f)=true)
   (hb:∀ us:List Value,us.length=ps.length→bindArgs (PySem.W.fnOf x x (qau st) (qq st) (qb st) .none kV dc pm an cd ct) ⟨us,[]⟩=pure (ps.zip us)) (B:∀ b ∈ bs,mg b=none) (hm:qim P w K mg md) (hF:FT CX0 P w K mg base fns Φ) (h:dOk N ps st fns k bs md c=true) :
   FnT CX0 P w K mg base x ps.length (k+1) (qcj (qaf Φ fns c) (N.length - ps.length)):=by
 have F:=qf0 (st:=st) l q kp
 unfold dOk at h
 rw[Bool.and_eq_true]at h
 exact qun (q1z F (qcl h.1) B hm hF h.2) (PySem.W.mg_of X G a) kp (.all hb)
theorem q4z {n:Nat} (X:K.In h) (G:h.Ns mainGlobals mg) (a:PySem.W.nsIn K mainGlobals x=some (some (.ref f))) (l:K.lookup f=some ⟨oc,od,.func (PySem.W.fnOf x x (qau st) (qq st) (qb st) .none kV dc pm an cd ct),sl⟩) (q:PySem.W.codeIn K cd x=true) (kp:PySem.W.keepIn K (.ref f)=true)
   (hb:∀ us:List Value,us.length=ps.length→bindArgs (PySem.W.fnOf x x (qau st) (qq st) (qb st) .none kV dc pm an cd ct) ⟨us,[]⟩=pure (ps.zip us)) (S:qan N ps (qb st)):FnT CX0 P w K mg base x n 1 (fun _=>M.fail) :=
 qun ((qf0 (st:=st) l q kp).ok (sp:=spT n fun _=>M.fail) S (fun vs H Q E h=>by obtain ⟨_,_,_,_,_,_,q⟩:=h;exact False.elim q) (fun cdv A outer s H vs Q E hr h=>by obtain ⟨_,_,_,_,_,_,q⟩:=h;exact False.elim q)) (PySem.W.mg_of X G a) kp (.all hb)
end
noncomputable def Ok {α:Type} (r:Out α) (P:α→Sto→Prop):Prop:=match r with
 | .ok a S=>P a S
 | _=>False
@[simp] theorem qnl {α:Type} {a:α} {S:Sto} {P:α→Sto→Prop}:Ok (.ok a S) P=P a S:=(rfl)
theorem qeb {α β:Type} {m:M α} {k:α→M β} {S:Sto} {P:β→Sto→Prop}:Ok (M.bind m k S) P=Ok (m S) (fun a S1=>Ok (k a S1) P):=by
 unfold M.bind
 cases m S <;> rfl
theorem Ok.mono {α:Type} {r:Out α} {P Q:α→Sto→Prop} (h:Ok r Q) (k:∀ a S,Q a S→P a S):Ok r P:=by
 cases r with
 | ok a S=>exact k a S h
 | err x S=>exact h
 | no=>exact h
theorem qdj {c:Prop} [Decidable c] {A B:Prop} (h1:c→A) (h2:¬ c→B):if c then A else B:=by
 by_cases h:c
 · rw[if_pos h];exact h1 h
 · rw[if_neg h];exact h2 h
@[simp] theorem pure_run {α:Type} {a:α} {S:Sto}:M.pure a S=.ok a S:=(rfl)
section
variable {Φ:List Fd} {f:List (Str × Nat × Nat)} {Γ:Env} {S:Sto} {P:D→Sto→Prop}
theorem okb {α β:Type} {m:M α} {k:α→M β} {S:Sto} {P:β→Sto→Prop}:Ok (M.bind m k S) P=Ok (m S) (fun a S1=>Ok (k a S1) P):=qeb
@[simp] theorem q7m {i:Nat}:Ok (evE Φ f (.var i) Γ S) P=Ok (qjj i Γ S) P:=by rw[evE]
@[simp] theorem q7n {i:Int}:Ok (evE Φ f (.int i) Γ S) P=P (.int i) S:=by rw[evE];rfl
@[simp] theorem q7o {i:Str}:Ok (evE Φ f (.str i) Γ S) P=P (.str i) S:=by rw[evE];rfl
@[simp] theorem q8j {i:Bool}:Ok (evE Φ f (.bl i) Γ S) P=P (.bl i) S:=by rw[evE];rfl
@[simp] theorem q7p:Ok (evE Φ f .non Γ S) P=P .non S:=by rw[evE];rfl
@[simp] theorem q8k {n:String}:Ok (evE Φ f (.ty n) Γ S) P=P (.ty n) S:=by rw[evE];rfl
@[simp] theorem q7q {nw:Bool} {op:Operator} {a b:CE}:Ok (evE Φ f (.bin nw op a b) Γ S) P=Ok (evE Φ f a Γ S) fun x S1=>Ok (evE Φ f b Γ S1) fun y S2=>Ok (qha nw op x y S2) P:=by rw[evE,okb];simp only [okb]
@[simp] theorem q7r {op:CmpOp} {a b:CE}:Ok (evE Φ f (.cmp op a b) Γ S) P=Ok (evE Φ f a Γ S) fun x S1=>Ok (evE Φ f b Γ S1) fun y S2=>Ok (qa2 op x y S2) P:=by rw[evE,okb];simp only [okb]
@[simp] theorem q5m {o p:CmpOp} {a b c:CE}:Ok (evE Φ f (.chain o p a b c) Γ S) P=Ok (evE Φ f a Γ S) fun x S1=>Ok (evE Φ f b Γ S1) fun y S2=>Ok (qa2 o x y S2) fun z S3=>Ok (asB z S3) fun d S4=>if d=true then Ok (evE Φ f c Γ S4) fun u S5=>Ok (qa2 p y u S5) P else P (.bl false) S4:=by
 rw[evE];unfold qf8;rw[okb];simp only [okb];congr;funext x S1;congr;funext y S2;congr;funext z S3;congr;funext d S4;cases d <;> simp [okb] <;> rfl
@[simp] theorem q7s {a b:CE}:Ok (evE Φ f (.and a b) Γ S) P=Ok (evE Φ f a Γ S) fun x S1=>Ok (asB x S1) fun d S2=>if d=true then Ok (evE Φ f b Γ S2) P else P (.bl false) S2:=by
 rw[evE];unfold q02;rw[okb];simp only [okb];congr;funext x S1;congr;funext d S4;cases d <;> rfl
@[simp] theorem q8l {a b:CE}:Ok (evE Φ f (.or a b) Γ S) P=Ok (evE Φ f a Γ S) fun x S1=>Ok (asB x S1) fun d S2=>if d=true then P (.bl true) S2 else Ok (evE Φ f b Γ S2) P:=by
 rw[evE];unfold orV;rw[okb];simp only [okb];congr;funext x S1;congr;funext d S4;cases d <;> rfl
@[simp] theorem q7t {a:CE}:Ok (evE Φ f (.one a) Γ S) P=Ok (evE Φ f a Γ S) P:=by rw[evE]
@[simp] theorem q7u {c:CB} {a b:CE}:Ok (evE Φ f (.ife c a b) Γ S) P=Ok (evB Φ f c Γ S) fun d S1=>if d=true then Ok (evE Φ f a Γ S1) P else Ok (evE Φ f b Γ S1) P:=by rw[evE];unfold ifE;rw[okb];congr;funext d S4;cases d <;> rfl
@[simp] theorem q7v {as:CL}:Ok (evE Φ f (.tup as) Γ S) P=Ok (evA Φ f as Γ S) fun ds S1=>Ok (mkT ds S1) P:=by rw[evE,okb]
@[simp] theorem q7w {nw:Bool} {as:CL}:Ok (evE Φ f (.lst nw as) Γ S) P=Ok (evA Φ f as Γ S) fun ds S1=>Ok (mkL nw ds S1) P:=by rw[evE,okb]
@[simp] theorem q8m {a i:CE}:Ok (evE Φ f (.ix a i) Γ S) P=Ok (evE Φ f a Γ S) fun x S1=>Ok (evE Φ f i Γ S1) fun y S2=>Ok (ixM (look x S2) y S2) P:=by rw[evE,okb];simp only [okb]
@[simp] theorem q8n {nw:Bool} {a:CE} {lo hi:CO}:Ok (evE Φ f (.sl nw a lo hi) Γ S) P=Ok (evE Φ f a Γ S) fun x S1=>Ok (evO Φ f lo Γ S1) fun l S2=>Ok (evO Φ f hi Γ S2) fun h S3=>Ok (slM nw (look x S3) l h S3) P:=by rw[evE];unfold slD;rw[okb];simp only [okb]
@[simp] theorem q6y {j:Nat} {as:CL}:Ok (evE Φ f (.call j as) Γ S) P=Ok (evA Φ f as Γ S) fun ds S1=>Ok (qai Φ f j ds S1) P:=by rw[evE,okb]
@[simp] theorem q8o {b:Bi} {as:CL}:Ok (evE Φ f (.bi b as) Γ S) P=Ok (evA Φ f as Γ S) fun ds S1=>Ok (biF b ds S1) P:=by rw[evE,okb]
@[simp] theorem q8p {m:Mt} {o:CE} {as:CL}:Ok (evE Φ f (.mt m o as) Γ S) P=Ok (evE Φ f o Γ S) fun x S1=>mtT m (look x S1)=true∧Ok (evA Φ f as Γ S1) fun ds S2=>Ok (mtF m x ds S2) P:=by
 rw[evE];unfold mtD;rw[okb];congr;funext x S1
 cases h:mtT m (look x S1)with
 | true=>simp only [if_true,okb,true_and]
 | false=>simp [M.fail,Ok]
@[simp] theorem q8q {nw:Bool} {n:Nat} {t:CG} {i:CI} {c:CF} {e:CE}:Ok (evE Φ f (.lc nw n t i c e) Γ S) P=Ok (evI Φ f i Γ S) fun r S1=>r.1.length < sizeLine∧Ok (lcA r.2 n (evG Φ f t) (evF Φ f c) (evE Φ f e) Γ [] r.1 S1) fun ds S2=>Ok (alloc nw (.lst ds) S2) P:=by
 rw[evE];unfold lcD;rw[okb];congr;funext r S1
 by_cases h:r.1.length < sizeLine
 · simp only [h,decide_true,if_true,true_and,okb,noErr]
   cases lcA r.2 n (evG Φ f t) (evF Φ f c) (evE Φ f e) Γ [] r.1 S1 <;> rfl
 · simp [h,M.fail,Ok]
@[simp] theorem q7x {x:Str} {k:Key}:Ok (evE Φ f (.con x k) Γ S) P=P (qud k) S:=by rw[evE];rfl
@[simp] theorem q7y {x:Str} {tab:List (Str × Addr)} {a:CE}:Ok (evE Φ f (.itm x tab a) Γ S) P=Ok (evE Φ f a Γ S) fun x S1=>Ok (qpe tab x S1) P:=by rw[evE,okb]
@[simp] theorem q6z {kt:List (Addr × List Str)} {as:CL}:Ok (evE Φ f (.lenK kt as) Γ S) P=Ok (evA Φ f as Γ S) fun x S1=>Ok (lenK kt x S1) P:=by rw[evE,okb]
@[simp] theorem q60 {tab:List (Str × Str)} {d:Str} {a:CE}:Ok (evE Φ f (.dget tab d a) Γ S) P=Ok (evE Φ f a Γ S) fun x S1=>Ok (qdy tab d x S1) P:=by rw[evE,okb]
@[simp] theorem q7z {a:CE}:Ok (evE Φ f (.frz a) Γ S) P=Ok (evE Φ f a Γ S) fun x S1=>Ok (qpd x S1) P:=by rw[evE,okb]
variable {B:Bool→Sto→Prop}
@[simp] theorem q70 {op:CmpOp} {a b:CE}:Ok (evB Φ f (.cmp op a b) Γ S) B=Ok (evE Φ f a Γ S) fun x S1=>Ok (evE Φ f b Γ S1) fun y S2=>Ok (qa2 op x y S2) fun d S3=>Ok (asB d S3) B:=by rw[evB,okb,okb];simp only [okb]
@[simp] theorem q71 {x:Str} {tab:List (Str × Addr)} {a:CE}:Ok (evB Φ f (.nin x tab a) Γ S) B=Ok (evE Φ f a Γ S) fun x S1=>Ok (qpf tab x S1) B:=by rw[evB,okb]
@[simp] theorem q5n {o p:CmpOp} {a b c:CE}:Ok (evB Φ f (.chain o p a b c) Γ S) B=Ok (evE Φ f (.chain o p a b c) Γ S) fun d S3=>Ok (asB d S3) B:=by rw[evB,okb,evE]
@[simp] theorem q72 {a b:CB}:Ok (evB Φ f (.and a b) Γ S) B=Ok (evB Φ f a Γ S) fun d S2=>if d=true then Ok (evB Φ f b Γ S2) B else B false S2:=by
 rw[evB];unfold q0z;rw[okb];congr;funext d S4;cases d <;> rfl
@[simp] theorem q8r {a b:CB}:Ok (evB Φ f (.or a b) Γ S) B=Ok (evB Φ f a Γ S) fun d S2=>if d=true then B true S2 else Ok (evB Φ f b Γ S2) B:=by
 rw[evB];unfold orB;rw[okb];congr;funext d S4;cases d <;> rfl
@[simp] theorem q73 {a:CB}:Ok (evB Φ f (.one a) Γ S) B=Ok (evB Φ f a Γ S) B:=by rw[evB]
@[simp] theorem q74 {a:CB}:Ok (evB Φ f (.not a) Γ S) B=Ok (evB Φ f a Γ S) fun d S2=>B (!d) S2:=by rw[evB];unfold q00;rw[okb];rfl
@[simp] theorem q75 {a:CE}:Ok (evB Φ f (.tru a) Γ S) B=Ok (evE Φ f a Γ S) fun d S2=>Ok (qrl d S2) B:=by rw[evB,okb]
@[simp] theorem q76:Ok (evF Φ f .yes Γ S) B=B true S:=by rw[evF];rfl
variable {Q:List D→Sto→Prop} {O:Option Int→Sto→Prop} {I:List D × Src→Sto→Prop} {R:Fl × Env→Sto→Prop} {G:Env→Sto→Prop}
@[simp] theorem q77:Ok (evA Φ f .nil Γ S) Q=Q [] S:=by rw[evA];rfl
@[simp] theorem q61 {a:CE} {r:CL}:Ok (evA Φ f (.cons a r) Γ S) Q=Ok (evE Φ f a Γ S) fun x S1=>Ok (evA Φ f r Γ S1) fun xs S2=>Q (x::xs) S2:=by rw[evA];unfold qtv;rw[okb];simp only [okb];rfl
@[simp] theorem q8s:Ok (evO Φ f .no Γ S) O=O none S:=by rw[evO];rfl
@[simp] theorem q8t {a:CE}:Ok (evO Φ f (.at_ a) Γ S) O=Ok (evE Φ f a Γ S) fun x S1=>Ok (asI x S1) O:=by rw[evO,okb]
@[simp] theorem q62 {a:CE}:Ok (evI Φ f (.seq a) Γ S) I=Ok (evE Φ f a Γ S) fun x S1=>Ok (qa3 x S1) I:=by rw[evI,okb]
@[simp] theorem q5o {as:CL}:Ok (evI Φ f (.rng1 as) Γ S) I=Ok (evA Φ f as Γ S) fun x S1=>Ok (qez x S1) I:=by rw[evI,okb]
@[simp] theorem q40 {a:CE}:Ok (evI Φ f (.chars a) Γ S) I=Ok (evE Φ f a Γ S) fun x S1=>Ok (qea x S1) I:=by rw[evI,okb]
@[simp] theorem q5p {kt:List (Addr × List Str)} {as:CL}:Ok (evI Φ f (.zipK kt as) Γ S) I=Ok (evA Φ f as Γ S) fun x S1=>Ok (qgc kt x S1) I:=by rw[evI,okb]
@[simp] theorem q63 {as:CL}:Ok (evI Φ f (.zip as) Γ S) I=Ok (evA Φ f as Γ S) fun x S1=>Ok (qgw x S1) I:=by rw[evI,okb]
@[simp] theorem q8u {i:Nat} {d:D}:Ok (evG Φ f (.nm i) d Γ S) G=G (Γ.set i (some d)) S:=by rw[evG];rfl
@[simp] theorem q8v {ts:CT} {ds:List D}:Ok (evG Φ f (.tg ts) (.tup ds) Γ S) G=(ds.length=qnj ts∧Ok (evT Φ f ts ds Γ S) G):=by
 rw[evG];unfold qt2;dsimp only [look];by_cases h:ds.length=qnj ts <;> simp [h,Ok]
@[simp] theorem q64 {o i:CE} {d:D}:Ok (evG Φ f (.sub o i) d Γ S) G=Ok (evE Φ f o Γ S) fun x S1=>Ok (evE Φ f i Γ S1) fun y S2=>Ok (setM x y d S2) fun _ S3=>G Γ S3:=by rw[evG];unfold q1h;rw[okb];simp only [okb];rfl
@[simp] theorem q65:qnj .nil=0:=(rfl)
@[simp] theorem q66 {a:CG} {r:CT}:qnj (.cons a r)=qnj r+1:=(rfl)
@[simp] theorem q67:Ok (evT Φ f .nil [] Γ S) G=G Γ S:=by rw[evT];rfl
@[simp] theorem q5q {a:CG} {r:CT} {d:D} {ds:List D}:Ok (evT Φ f (.cons a r) (d::ds) Γ S) G=Ok (evG Φ f a d Γ S) fun Γ1 S1=>Ok (evT Φ f r ds Γ1 S1) G:=by rw[evT];unfold qll;rw[okb]
@[simp] theorem q8w {a:CE}:Ok (evS Φ f (.ex a) Γ S) R=Ok (evE Φ f a Γ S) fun _ S1=>R (.nx,Γ) S1:=by rw[evS,okb];rfl
@[simp] theorem q78 {a:CE}:Ok (evS Φ f (.ret a) Γ S) R=Ok (evE Φ f a Γ S) fun d S1=>R (.rt d,Γ) S1:=by rw[evS,okb];rfl
@[simp] theorem q8x {c:CB} {a b:CSL}:Ok (evS Φ f (.sif c a b) Γ S) R=Ok (evB Φ f c Γ S) fun d S1=>if d=true then Ok (qaf Φ f a Γ S1) R else Ok (qaf Φ f b Γ S1) R:=by rw[evS];unfold ifS;rw[okb];congr;funext d S4;cases d <;> rfl
@[simp] theorem q79 {t:CG} {e:CE}:Ok (evS Φ f (.asg t e) Γ S) R=Ok (evE Φ f e Γ S) fun d S1=>Ok (evG Φ f t d Γ S1) fun Γ1 S2=>R (.nx,Γ1) S2:=by rw[evS,okb];simp only [okb];rfl
@[simp] theorem q8a {i:Nat} {e:CE}:Ok (evS Φ f (.set i e) Γ S) R=Ok (evE Φ f e Γ S) fun d S1=>R (.nx,Γ.set i (some d)) S1:=by rw[evS,okb];rfl
@[simp] theorem q5r {op:Operator} {o i e:CE}:Ok (evS Φ f (.augIx op o i e) Γ S) R=Ok (evE Φ f o Γ S) fun x S1=>Ok (evE Φ f i Γ S1) fun y S2=>Ok (ixW x y S2) fun u S3=>Ok (evE Φ f e Γ S3) fun v S4=>Ok (ipD op u v S4) fun z S5=>Ok (setM x y z S5) fun _ S6=>R (.nx,Γ) S6:=by
 rw[evS];unfold augIx;rw[okb];simp only [okb];rfl
@[simp] theorem q8b {t:CG} {i:CI} {b:CSL}:Ok (evS Φ f (.sfor t i b) Γ S) R=Ok (evI Φ f i Γ S) fun r S1=>Ok (forL r.2 (evG Φ f t) (qaf Φ f b) r.1 Γ S1) R:=by rw[evS];unfold q1k;rw[okb]
@[simp] theorem q8c:Ok (qaf Φ f .nil Γ S) R=R (.nx,Γ) S:=by rw[qaf];rfl
noncomputable def Go (Φ:List Fd) (f:List (Str × Nat × Nat)) (r:CSL) (R:Fl × Env→Sto→Prop) (x:Fl × Env) (S:Sto):Prop:=match x.1 with
 | .nx=>Ok (qaf Φ f r x.2 S) R
 | _=>R x S
theorem qa {a:CS} {r:CSL}:Ok (qaf Φ f (.cons a r) Γ S) R=Ok (evS Φ f a Γ S) (Go Φ f r R):=by
 rw[qaf];unfold seqS;rw[okb];congr;funext x S1;obtain ⟨fl,Γ1⟩:=x;cases fl <;> rfl
@[simp] theorem qy0 {r:CSL}:Go Φ f r R (.nx,Γ) S=Ok (qaf Φ f r Γ S) R:=(rfl)
@[simp] theorem q8d {r:CSL} {d:D}:Go Φ f r R (.rt d,Γ) S=R (.rt d,Γ) S:=(rfl)
noncomputable def Ret (P:D→Sto→Prop):Fl × Env→Sto→Prop:=fun r S'=>match r.1 with
 | .rt d=>P d S'
 | .nx=>P .non S'
 | _=>False
@[simp] theorem q68 {d:D}:Ret P (.rt d,Γ) S=P d S:=(rfl)
end
theorem Ok.run {body:MS} {m:Nat} {ds:List D} {S:Sto} {P:D→Sto→Prop} (h:Ok (body (ds.map some++List.replicate m none) S) (Ret P)):Ok (qcj body m ds S) P:=by
 unfold qcj
 cases e:body (ds.map some++List.replicate m none) S with
 | ok r S' =>
   rw[e]at h
   obtain ⟨fl,Γ⟩:=r
   cases fl <;> exact h
 | err x S'=>rw[e]at h;exact h
 | no=>rw[e]at h;exact h
@[simp] theorem q2k {n:Nat} {F:Fd} {ds:List D}:qaz n F ds=if ds.length=n then F ds else M.fail:=(rfl)
@[simp] theorem qlt {S:Sto} {l:Nat} {xs:List D} (h:S[l]? =some (.lst xs)):look (.ref l) S=.lst xs:=by unfold look;dsimp only;rw[h]
@[simp] theorem q2l {S:Sto} {xs:List D}:look (.lst xs) S=.lst xs:=(rfl)
@[simp] theorem q2m {S:Sto} {xs:List D}:look (.tup xs) S=.tup xs:=(rfl)
@[simp] theorem q2n {S:Sto} {i:Str}:look (.str i) S=.str i:=(rfl)
@[simp] theorem q8e {nw:Bool} {i j:Int}:qha nw .Add (.int i) (.int j)=M.pure (.int (i+j)):=(rfl)
@[simp] theorem q8f {nw:Bool} {i j:Int}:qha nw .Sub (.int i) (.int j)=M.pure (.int (i - j)):=(rfl)
theorem qup {nw:Bool} {i j:Int} (h:qeo i j=true):qha nw .Mult (.int i) (.int j)=M.pure (.int (i * j)):=by
 funext S;show (if qeo i j=true then M.pure (D.int (i * j))else M.fail) S=_;rw[h];rfl
theorem quq {nw:Bool} {i j:Int} (h:qem i j):qha nw .FloorDiv (.int i) (.int j)=M.pure (.int (i / j)):=by
 funext S;show (if decide (qem i j)=true then M.pure (D.int (i / j))else M.fail) S=_;rw[decide_eq_true h];rfl
theorem qkr {nw:Bool} {i j:Int} (h:0 < j):qha nw .Mod (.int i) (.int j)=M.pure (.int (i % j)):=by
 funext S;show (if decide (0 < j)=true then M.pure (D.int (i % j))else M.fail) S=_;rw[decide_eq_true h];rfl
theorem qur {nw:Bool} {i j:Int} (h:qk1 i j):qha nw .Pow (.int i) (.int j)=M.pure (.int (i ^ j.toNat)):=by
 funext S;show (if decide (qk1 i j)=true then M.pure (D.int (i ^ j.toNat))else M.fail) S=_;rw[decide_eq_true h];rfl
@[simp] theorem q8y {i j:Int}:qa2 .Lt (.int i) (.int j)=M.pure (.bl (decide (i < j))):=(rfl)
@[simp] theorem q8z {i j:Int}:qa2 .LtE (.int i) (.int j)=M.pure (.bl (decide (i≤j))):=(rfl)
@[simp] theorem q80 {i j:Int}:qa2 .Gt (.int i) (.int j)=M.pure (.bl (decide (j < i))):=(rfl)
@[simp] theorem q81 {i j:Int}:qa2 .GtE (.int i) (.int j)=M.pure (.bl (decide (j≤i))):=(rfl)
@[simp] theorem q82 {i j:Int}:qa2 .Eq (.int i) (.int j)=M.pure (.bl (i==j)):=by
 funext S
 show (if decide (D.dep (.int i)≤60) && qk2 (.int i) (.int j)then M.pure (D.bl (false != eqV (.int i) (.int j)))else M.fail) S=_
 simp [D.dep,qk2,eqV]
@[simp] theorem q83 {i j:Int}:qa2 .NotEq (.int i) (.int j)=M.pure (.bl (i != j)):=by
 funext S
 show (if decide (D.dep (.int i)≤60) && qk2 (.int i) (.int j)then M.pure (D.bl (true != eqV (.int i) (.int j)))else M.fail) S=_
 simp [D.dep,qk2,eqV,bne]
@[simp] theorem q69 {b:Bool}:asB (.bl b)=M.pure b:=(rfl)
@[simp] theorem q5s {ds:List D}:mkT ds=if sizeOk ds.length then M.pure (.tup ds)else M.fail:=(rfl)
theorem qal {n:Nat} (h:n≤1000):sizeOk n=true:=decide_eq_true (Nat.le_of_lt (qf1 h))
@[simp] theorem q8g {o:Option D} {Γ:Env}:qjj 0 (o::Γ)=match o with | some d=>M.pure d | none=>M.fail:=by
 unfold qjj;cases o <;> rfl
@[simp] theorem q8h {o:Option D} {Γ:Env} {i:Nat}:qjj (i+1) (o::Γ)=qjj i Γ:=by
 unfold qjj;rw[List.getElem?_cons_succ]
@[simp] theorem qlu {xs:List D} {i:Int} {S:Sto}:ixM (.lst xs) (.int i) S=match atI xs i with | some d=>.ok d S | none=>.no:=by unfold ixM;dsimp only;cases atI xs i <;> rfl
@[simp] theorem qs1 {xs:List D} {i:Int} {S:Sto}:ixM (.tup xs) (.int i) S=match atI xs i with | some d=>.ok d S | none=>.no:=by unfold ixM;dsimp only;cases atI xs i <;> rfl
@[simp] theorem q5t {l:Nat} {i:D} {S:Sto}:ixW (.ref l) i S=ixM (look (.ref l) S) i S:=(rfl)
@[simp] theorem q84 {α:Type} {a:α} {xs:List α}:atI (a::xs) 0=some a:=by unfold atI ixN;simp
@[simp] theorem q85 {α:Type} {a b:α} {xs:List α}:atI (a::b::xs) 1=some b:=qbt (j:=1) rfl
@[simp] theorem q86 {α:Type} {a b c:α} {xs:List α}:atI (a::b::c::xs) 2=some c:=qbt (j:=2) rfl
@[simp] theorem q87 {α:Type} {a b c d:α} {xs:List α}:atI (a::b::c::d::xs) 3=some d:=qbt (j:=3) rfl
theorem qfj {S:Sto} {l:Nat} {k:Int} {v:D}:setM (.ref l) (.int k) v S=match S[l]? with
   | some (.lst xs)=>match ixN xs.length k with
     | some j=>.ok () (S.set l (.lst (xs.set j v)))
     | none=>.no
   | some (.dct ks xs)=>if ks.length < sizeLine then .ok () (S.set l (.dct (qgu ks (.inl k)) (qdt ks xs (.inl k) v)))else .no
   | _=>.no:=by
 unfold setM;dsimp only;cases S[l]? with
 | none=>rfl
 | some c=>cases c <;> rfl
theorem qxj {S:Sto} {l:Nat} {xs:List D} {k:Int} {j:Nat} {v:D} (h:S[l]? =some (.lst xs)) (hj:ixN xs.length k=some j):setM (.ref l) (.int k) v S=.ok () (S.set l (.lst (xs.set j v))):=by
 unfold setM;dsimp only;rw[h];dsimp only;rw[hj]
@[simp] theorem q88 {i j:Int} {S:Sto}:ipD .Add (.int i) (.int j) S=.ok (.int (i+j)) S:=(rfl)
@[simp] theorem q12 {xs:List D} {S:Sto}:biF .len [.lst xs] S=.ok (.int xs.length) S:=(rfl)
theorem qxk {n i:Nat} (h:i < n):ixN n (i:Int)=some i:=by unfold ixN;simp [h]
theorem qpl {α:Type} {xs:List α} {i:Int} (h0:0≤i) (h1:i < xs.length):∃ v,xs[i.toNat]? =some v∧atI xs i=some v:=by
 have hl:i.toNat < xs.length:=by omega
 refine⟨xs[i.toNat],List.getElem?_eq_getElem hl,?_⟩
 unfold atI ixN
 rw[if_pos h0,if_pos h1]
 exact List.getElem?_eq_getElem hl
noncomputable def qdk (c:Cell):Prop:=∃ (cells:List Int) (i r z:Int),c=.lst [.lst (cells.map D.int),.int i,.int r,.int z]∧0≤i∧0≤z∧z < 2147483629
noncomputable def qe0:CSL:=(.cons (.sif (.cmp .Gt (.ix (.var 0) (.int 2)) (.int 0)) (.cons (.set 2 (.ix (.var 0) (.int 2))) (.cons (.asg (.sub (.var 0) (.int 2)) (.bin false .FloorDiv (.var 2) (.var 1))) (.cons (.ret (.bin false .Mod (.var 2) (.var 1))) .nil))) .nil) (.cons (.set 3 (.int 0)) (.cons (.sif (.cmp .Lt (.ix (.var 0) (.int 1)) (.bi .len (.cons (.ix (.var 0) (.int 0)) .nil))) (.cons (.set 3 (.ix (.ix (.var 0) (.int 0)) (.ix (.var 0) (.int 1)))) (.cons (.augIx .Add (.var 0) (.int 1) (.int 1)) .nil)) .nil) (.cons (.sif (.cmp .GtE (.var 3) (.bin false .Pow (.int 10) (.int 18))) (.cons (.asg (.sub (.var 0) (.int 2)) (.bin false .FloorDiv (.var 3) (.var 1))) (.cons (.ret (.bin false .Mod (.var 3) (.var 1))) .nil)) .nil) (.cons (.set 4 (.ix (.var 0) (.int 3))) (.cons (.set 4 (.bin false .Add (.bin false .Add (.bin false .Pow (.var 4) (.int 3)) (.bin false .Mult (.int 48271) (.var 4))) (.bin false .Mult (.int 69621) (.bin false .Mod (.var 3) (.int 2147483629))))) (.cons (.asg (.sub (.var 0) (.int 3)) (.bin false .Mod (.bin false .Add (.var 4) (.int 11)) (.int 2147483629))) (.cons (.ret (.bin false .Mod (.bin false .FloorDiv (.ix (.var 0) (.int 3)) (.int 64)) (.var 1))) .nil))))))))
noncomputable def qpm:List (Str × Nat × Nat):=[]
noncomputable def qap:Fd:=qcj (qaf [] [] qe0) 3
theorem qav {c:Cell} {S:Sto} {m:Int} {P:D→Sto→Prop} (hc:qdk c) (h1:1≤m) (h2:m < 2 ^ 200) (k:∀ r c',0≤r→r < m→qdk c'→P (.int r) (c'::S)):Ok (qap [.ref 0,.int m] (c::S)) P:=by
 obtain ⟨cells,i,r,z,rfl,hi,hz,hz'⟩:=hc
 have hd:∀ i:Int,qem i m:=fun i=>⟨by omega,h2⟩
 refine Ok.run ?_
 unfold qe0
 rw[qa]
 simp
 refine qdj (fun h=> ?_) fun h=> ?_
 · simp [qa,qfj,quq (hd _),qkr (show 0 < m by omega),ixN]
   exact k _ _ (Int.emod_nonneg _ (by omega)) (Int.emod_lt_of_pos _ (by omega)) ⟨cells,i,_,z,rfl,hi,hz,hz'⟩
 · rw [qa]
   simp
   rw[qa]
   refine Ok.mono (Q:=fun x S'=>∃ v i',x=(.nx,[some (.ref 0),some (.int m),none,some (.int v),none])∧0≤i'∧S'=.lst [.lst (cells.map D.int),.int i',.int r,.int z]::S) ?_ ?_
   · simp
     refine qdj (fun h=> ?_) fun h=> ?_
     · obtain ⟨v,e1,e2⟩:=qpl (xs:=cells.map D.int) hi (by simpa using h)
       simp at e1
       obtain ⟨v',_,rfl⟩:=e1
       simp [qa,qfj,e2,ixN]
       omega
     · simp [hi]
   · rintro _ _ ⟨v,i',rfl,hi',rfl⟩
     rw[qy0,qa]
     simp [qur (show qk1 10 18 from ⟨by decide,by decide,by decide⟩)]
     refine qdj (fun h=> ?_) fun h=> ?_
     · simp [qa,qfj,quq (hd _),qkr (show 0 < m by omega),ixN]
       exact k _ _ (Int.emod_nonneg _ (by omega)) (Int.emod_lt_of_pos _ (by omega)) ⟨cells,i',_,z,rfl,hi',hz,hz'⟩
     · have e1:qk1 z 3:=⟨by decide,by decide,by omega⟩
       have e2:qeo 48271 z=true:=by unfold qeo;rw[Bool.or_eq_true];exact .inl (decide_eq_true (.inl ⟨by decide,by decide⟩))
       have e3:qeo 69621 (v % 2147483629)=true:=by unfold qeo;rw[Bool.or_eq_true];exact .inl (decide_eq_true (.inl ⟨by decide,by decide⟩))
       simp [qa,qfj,qur e1,qup e2,qup e3,qkr (show 0 < m by omega),qkr,quq (show qem _ 64 from ⟨by decide,by decide⟩),ixN]
       exact k _ _ (Int.emod_nonneg _ (by omega)) (Int.emod_lt_of_pos _ (by omega)) ⟨cells,i',r,_,rfl,hi',Int.emod_nonneg _ (by decide),Int.emod_lt_of_pos _ (by decide)⟩
noncomputable def Nxt (R:Fl × Env→Sto→Prop) (J:Env→Sto→Prop):Fl × Env→Sto→Prop:=fun r S=>match r.1 with
 | .nx=>J r.2 S
 | .ct=>J r.2 S
 | .bk=>R (.nx,r.2) S
 | .rt d=>R (.rt d,r.2) S
section
variable {R:Fl × Env→Sto→Prop} {J:Env→Sto→Prop} {Γ:Env} {S:Sto}
@[simp] theorem q7a:Nxt R J (.nx,Γ) S=J Γ S:=(rfl)
@[simp] theorem q7b {d:D}:Nxt R J (.rt d,Γ) S=R (.rt d,Γ) S:=(rfl)
theorem qho {α:Type} {src:Src} {k:M α} {P:α→Sto→Prop} (h:qas src S):Ok (M.bind (guard src) (fun _=>k) S) P=Ok (k S) P:=by
 unfold M.bind;rw[qt6 h]
theorem qgh {src:Src} {hd:D→Env→M Env} {body:MS} {ds:List D} (Iv:Nat→Env→Sto→Prop) (hs:∀ i Γ S,Iv i Γ S→qas src S)
   (step:∀ (i:Nat) d Γ S,ds[i]? =some d→Iv i Γ S→Ok (hd d Γ S) fun Γ1 S1=>Ok (body Γ1 S1) (Nxt R (Iv (i+1)))) (fin:∀ Γ S,Iv ds.length Γ S→R (.nx,Γ) S) :
   ∀ (k i:Nat) Γ S,i+k=ds.length→Iv i Γ S→Ok (forL src hd body (ds.drop i) Γ S) R
 | 0,i,Γ,S,e,h=>by
   have:i=ds.length:=by omega
   subst this
   rw[List.drop_length,forL,qho (hs _ _ _ h)]
   exact fin Γ S h
 | k+1,i,Γ,S,e,h=>by
   have hi:i < ds.length:=by omega
   rw[List.drop_eq_getElem_cons hi,forL,qho (hs _ _ _ h),qeb]
   refine(step i _ Γ S (List.getElem?_eq_getElem hi) h).mono fun Γ1 S1 q=> ?_
   rw[qeb]
   refine q.mono fun r S2 q=> ?_
   obtain ⟨fl,Γ2⟩:=r
   cases fl with
   | nx=>exact qgh Iv hs step fin k (i+1) Γ2 S2 (by omega) q
   | ct=>exact qgh Iv hs step fin k (i+1) Γ2 S2 (by omega) q
   | bk=>exact q
   | rt d=>exact q
theorem qhp {src:Src} {hd:D→Env→M Env} {body:MS} {ds:List D} (Iv:Nat→Env→Sto→Prop) (h0:Iv 0 Γ S) (hs:∀ i Γ S,Iv i Γ S→qas src S)
   (step:∀ (i:Nat) d Γ S,ds[i]? =some d→Iv i Γ S→Ok (hd d Γ S) fun Γ1 S1=>Ok (body Γ1 S1) (Nxt R (Iv (i+1)))) (fin:∀ Γ S,Iv ds.length Γ S→R (.nx,Γ) S):Ok (forL src hd body ds Γ S) R:=by
 have:=qgh (R:=R) (hd:=hd) (body:=body) Iv hs step fin ds.length 0 Γ S (by omega) h0
 simpa using this
theorem qiq {src:Src} {n:Nat} {hd:D→Env→M Env} {cond:Env→M Bool} {elt:Env→M D} {ds:List D} {Q:List D→Sto→Prop} (Iv:Nat→List D→Sto→Prop) (hs:∀ i a S,Iv i a S→qas src S)
   (step:∀ (i:Nat) d a S,ds[i]? =some d→Iv i a S→Ok (hd d (List.replicate n none++Γ) S) fun Γ1 S1=>Ok (cond Γ1 S1) fun b S2=>if b=true then Ok (elt Γ1 S2) fun y S3=>Iv (i+1) (a++[y]) S3 else Iv (i+1) a S2) (fin:∀ a S,Iv ds.length a S→Q a S) :
   ∀ (k i:Nat) a S,i+k=ds.length→Iv i a S→Ok (lcA src n hd cond elt Γ a (ds.drop i) S) Q
 | 0,i,a,S,e,h=>by
   have:i=ds.length:=by omega
   subst this
   rw[List.drop_length,lcA,qho (hs _ _ _ h)]
   exact fin a S h
 | k +1,i,a,S,e,h=>by
   have hi:i < ds.length:=by omega
   rw[List.drop_eq_getElem_cons hi,lcA,qho (hs _ _ _ h),qeb]
   refine(step i _ a S (List.getElem?_eq_getElem hi) h).mono fun Γ1 S1 q=> ?_
   rw[qeb]
   refine q.mono fun b S2 q=> ?_
   cases b with
   | true =>
     rw[if_pos rfl]at q
     rw[if_pos rfl,qeb]
     exact q.mono fun y S3 q=>qiq Iv hs step fin k (i+1) _ S3 (by omega) q
   | false =>
     rw[if_neg Bool.false_ne_true]at q
     rw[if_neg Bool.false_ne_true]
     exact qiq Iv hs step fin k (i+1) _ S2 (by omega) q
theorem qpn {src:Src} {n:Nat} {hd:D→Env→M Env} {cond:Env→M Bool} {elt:Env→M D} {ds:List D} {Q:List D→Sto→Prop} (Iv:Nat→List D→Sto→Prop) (h0:Iv 0 [] S) (hs:∀ i a S,Iv i a S→qas src S)
   (step:∀ (i:Nat) d a S,ds[i]? =some d→Iv i a S→Ok (hd d (List.replicate n none++Γ) S) fun Γ1 S1=>Ok (cond Γ1 S1) fun b S2=>if b=true then Ok (elt Γ1 S2) fun y S3=>Iv (i+1) (a++[y]) S3 else Iv (i+1) a S2) (fin:∀ a S,Iv ds.length a S→Q a S):Ok (lcA src n hd cond elt Γ [] ds S) Q:=by
 have:=qiq (Q:=Q) (hd:=hd) (cond:=cond) (elt:=elt) (n:=n) (Γ:=Γ) Iv hs step fin ds.length 0 [] S (by omega) h0
 simpa using this
end
noncomputable abbrev qlv:CSL:=.cons (.ret (.and (.cmp .Eq (.bi .len (.cons (.var 0) .nil)) (.bi .len (.cons (.var 1) .nil))) (.one (.bi .all (.cons (.lc false 2 (.tg (.cons (.nm 0) (.cons (.nm 1) .nil))) (.zip (.cons (.var 0) (.cons (.var 1) .nil))) .yes (.call 0 (.cons (.var 0) (.cons (.var 1) .nil)))) .nil))))) .nil
noncomputable abbrev qlw:CSL:=.cons (.sif (.or (.cmp .NotEq (.bi .isi (.cons (.var 0) (.cons (.ty "list") .nil))) (.bi .isi (.cons (.var 1) (.cons (.ty "list") .nil)))) (.one (.cmp .NotEq (.bi .isi (.cons (.var 0) (.cons (.ty "tuple") .nil))) (.bi .isi (.cons (.var 1) (.cons (.ty "tuple") .nil)))))) (.cons (.ret (.bl false)) .nil) .nil) qlv
noncomputable abbrev qlx:CSL:=.cons (.ret (.and (.cmp .Is (.var 0) .non) (.one (.cmp .Is (.var 1) .non)))) .nil
noncomputable abbrev qly:CSL:=.cons (.ret (.and (.cmp .Eq (.bi .isi (.cons (.var 0) (.cons (.ty "str") .nil))) (.bi .isi (.cons (.var 1) (.cons (.ty "str") .nil)))) (.one (.cmp .Eq (.var 0) (.var 1))))) .nil
noncomputable abbrev qlz:CSL:=.cons (.sif (.or (.cmp .NotEq (.bi .isi (.cons (.var 0) (.cons (.ty "bool") .nil))) (.bi .isi (.cons (.var 1) (.cons (.ty "bool") .nil)))) (.one (.cmp .NotEq (.bi .isi (.cons (.var 0) (.cons (.ty "int") .nil))) (.bi .isi (.cons (.var 1) (.cons (.ty "int") .nil)))))) (.cons (.ret (.bl false)) .nil) .nil) qly
noncomputable abbrev ql0:CSL:=.cons (.sif (.or (.cmp .Is (.var 0) .non) (.one (.cmp .Is (.var 1) .non))) qlx .nil) qlz
noncomputable abbrev qbi:CSL:=.cons (.sif (.or (.tru (.bi .isi (.cons (.var 1) (.cons (.ty "list") .nil)))) (.one (.tru (.bi .isi (.cons (.var 1) (.cons (.ty "tuple") .nil)))))) qlw .nil) ql0
noncomputable def qe1 (d:Nat):List (Str × Nat × Nat):=[("_law_same",2,d+1)]
noncomputable def qo:Nat→Fd
 | 0=>fun _=>M.fail
 | d+1=>qcj (qaf [qo d] (qe1 d) qbi) 0
noncomputable abbrev qgi:CSL:=.cons (.ret (.and (.chain .LtE .LtE (.int 1) (.bi .len (.cons (.var 0) .nil)) (.con "MOST_LETTERS" (Sum.inl 8))) (.one (.bi .all (.cons (.lc false 1 (.nm 0) (.chars (.var 0)) .yes (.cmp .In (.var 0) (.con "LETTERS" (Sum.inr "abcdefghijklmnopqrstuvwxyz")))) .nil))))) .nil
noncomputable def qks:List (Str × Nat × Nat):=[]
noncomputable def qrz:List Fd:=[]
noncomputable def qec:Fd:=qcj (qaf qrz qks qgi) 0
noncomputable abbrev qjl:CSL:=.cons (.ret (.or (.cmp .Eq (.var 0) (.str "0")) (.one (.cmp .NotEq (.ix (.var 0) (.int 0)) (.str "0"))))) .nil
noncomputable abbrev qjm:CSL:=.cons (.sif (.not (.tru (.bi .all (.cons (.lc false 1 (.nm 0) (.chars (.var 0)) .yes (.cmp .In (.var 0) (.con "FIGURES" (Sum.inr "0123456789")))) .nil)))) (.cons (.ret (.bl false)) .nil) .nil) qjl
noncomputable abbrev qd0:CSL:=.cons (.sif (.or (.cmp .Lt (.bi .len (.cons (.var 0) .nil)) (.int 1)) (.one (.cmp .Gt (.bi .len (.cons (.var 0) .nil)) (.con "MOST_FIGURES" (Sum.inl 10))))) (.cons (.ret (.bl false)) .nil) .nil) qjm
noncomputable def qgy:List (Str × Nat × Nat):=[]
noncomputable def qnm:List Fd:=[]
noncomputable def qcm:Fd:=qcj (qaf qnm qgy qd0) 0
noncomputable abbrev ql1:CSL:=.cons (.ret (.ife (.tru (.call 1 (.cons (.var 1) .nil))) (.bi .int (.cons (.var 1) .nil)) .non)) .nil
noncomputable abbrev ql2:CSL:=.cons (.ret (.ife (.tru (.call 0 (.cons (.var 1) .nil))) (.var 1) .non)) .nil
noncomputable abbrev ql3:CSL:=.cons (.ret (.ife (.cmp .NotEq (.var 1) (.str "")) (.var 1) .non)) .nil
noncomputable abbrev ql4:CSL:=.cons (.sif (.cmp .Eq (.var 0) (.str "name")) ql2 .nil) ql3
noncomputable abbrev qe2:CSL:=.cons (.sif (.cmp .Eq (.var 0) (.str "number")) ql1 .nil) ql4
noncomputable def qda:List (Str × Nat × Nat):=[("is_name",1,1),("is_number",1,1)]
noncomputable def qe3:List Fd:=[qec,qcm]
@[simp] theorem qvr:qai qe3 qda 0=qaz 1 qec:=(rfl)
@[simp] theorem qvs:qai qe3 qda 1=qaz 1 qcm:=(rfl)
noncomputable def qdb:Fd:=qcj (qaf qe3 qda qe2) 0
noncomputable abbrev qjn:CSL:=.cons (.set 9 (.lc true 1 (.nm 0) (.rng1 (.cons (.bin false .Add (.bin false .Add (.var 4) (.int 1)) (.call 0 (.cons (.var 0) (.cons (.bin false .Sub (.var 3) (.var 4)) .nil)))) .nil)) .yes (.call 0 (.cons (.var 1) (.cons (.int 26) .nil))))) .nil
noncomputable abbrev qjo:CSL:=.cons (.ex (.mt .append (.var 7) (.cons (.mt .join (.str "") (.cons (.lc false 1 (.nm 0) (.seq (.var 9)) .yes (.ix (.var 3) (.var 0))) .nil)) .nil))) .nil
noncomputable abbrev qbv:CSL:=.cons (.asg (.sub (.var 9) (.var 4)) (.bin false .Mod (.bin false .Add (.ix (.var 6) (.var 4)) (.bin false .Mult (.int 11) (.var 8))) (.int 26))) qjo
noncomputable abbrev qjp:CSL:=.cons (.sif (.not (.tru (.var 5))) qjn .nil) qbv
noncomputable abbrev qjq:CSL:=.cons (.set 9 (.bi (.list true) (.cons (.var 6) .nil))) qjp
noncomputable abbrev qjr:CSL:=.cons (.ret (.frz (.var 7))) .nil
noncomputable abbrev qjs:CSL:=.cons (.sfor (.nm 8) (.rng1 (.cons (.var 1) .nil)) qjq) qjr
noncomputable abbrev qjt:CSL:=.cons (.set 7 (.lst true .nil)) qjs
noncomputable abbrev qju:CSL:=.cons (.set 6 (.lc false 1 (.nm 0) (.rng1 (.cons (.var 3) .nil)) .yes (.call 0 (.cons (.var 1) (.cons (.int 26) .nil))))) qjt
noncomputable abbrev qjv:CSL:=.cons (.set 5 (.cmp .Eq (.call 0 (.cons (.var 0) (.cons (.int 2) .nil))) (.int 0))) qju
noncomputable abbrev qir:CSL:=.cons (.set 4 (.call 0 (.cons (.var 0) (.cons (.var 3) .nil)))) qjv
noncomputable abbrev qis:CSL:=.cons (.set 3 (.bin false .Add (.int 1) (.call 0 (.cons (.var 0) (.cons (.int 8) .nil))))) qir
noncomputable abbrev qd1:CSL:=.cons (.set 2 (.str "abcdefghijklmnopqrstuvwxyz")) qis
noncomputable def qat:List (Str × Nat × Nat):=[("_law_take",2,1)]
noncomputable def qa4:List Fd:=[qap]
@[simp] theorem qus:qai qa4 qat 0=qaz 2 qap:=(rfl)
noncomputable def qcn:Fd:=qcj (qaf qa4 qat qd1) 8
theorem q41 {i j:Int} (h: -(2 ^ 64) < i) (h':i < 2 ^ 64):qeo i j=true:=by
 unfold qeo;rw[Bool.or_eq_true];exact .inl (decide_eq_true (.inl ⟨h,h'⟩))
theorem qpo {l:Nat} {S:Sto} {xs:List D} {f:List D→Option (D × List D)} (h:S[l]? =some (.lst xs)):qf9 (.ref l) f S=match f xs with
   | some (d,ys)=>.ok d (S.set l (.lst ys))
   | none=>.no:=by
 unfold qf9;dsimp only;rw[h] <;> rfl
theorem qba {new:Bool} {ds:List D} (h:ds.length≤1000):mkL new ds=alloc new (.lst ds):=by unfold mkL;rw[if_pos (qal h)]
@[simp] theorem q5u {new:Bool}:mkL new []=alloc new (.lst []):=qba (Nat.zero_le _)
@[simp] theorem q5v {d:D} {S:Sto}:alloc true d S=.ok (.ref S.length) (S++[d.cell]):=(rfl)
@[simp] theorem q5w {d:D} {S:Sto}:alloc false d S=.ok d S:=(rfl)
@[simp] theorem q42 {xs:List D}:D.cell (.lst xs)=.lst xs:=(rfl)
@[simp] theorem q5x {xs:List D}:mtT .append (.lst xs)=true:=(rfl)
theorem qut {l:Nat} {S:Sto} {xs:List D} {d:D} (h:S[l]? =some (.lst xs)) (hz:xs.length≤1000):mtF .append (.ref l) [d] S=.ok .non (S.set l (.lst (xs++[d]))):=by
 show qf9 (.ref l) (fun xs=>if decide (xs.length < sizeLine)then some (.non,xs++[d])else none) S=_
 rw[qpo h,if_pos (decide_eq_true (qf1 hz))]
theorem qed {j:Int} (h:qih j=true):qez [.int j]=M.pure (qnb 0 j.toNat,[]):=by
 unfold qez;dsimp only;rw[if_pos h]
theorem qb2 {S:Sto}:qas [] S:=fun p hp=>by simp at hp
theorem qhq {m n:Nat} (h:m≤n) (hn:n≤1000:=by omega):qih (m:Int)=true:=by
 unfold qih;rw[Bool.and_eq_true];exact⟨decide_eq_true (by omega),decide_eq_true (by omega)⟩
noncomputable def Still (d:D):Prop:=∀ (n:Nat) (S:Sto),frz n d S=some (d,S)
theorem qxl {l:Nat} {S:Sto} {xs:List D} (h:S[l]? =some (.lst xs)) (hs:∀ d ∈ xs,Still d):qpd (.ref l) S=.ok (.lst xs) (S.set l .gone):=by
 have all:∀ (xs:List D) (S:Sto),(∀ d ∈ xs,Still d)→frzs 2 xs S=some (xs,S):=by
   intro xs
   induction xs with
   | nil=>intro S _;simp [frzs]
   | cons d ds ih =>
     intro S hs
     rw[frzs,hs d (by simp) 2 S]
     dsimp only
     rw[ih S fun x hx=>hs x (by simp [hx])]
 unfold qpd
 have:frz 3 (.ref l) S=some (.lst xs,S.set l .gone):=by simp [frz,h,all xs S hs]
 rw[this]
noncomputable def vec {α:Type} (n:Nat) (g:Nat→α):List α:=(List.range n).map g
section
variable {α β:Type} {n:Nat} {g:Nat→α}
@[simp] theorem qhr:(vec n g).length=n:=by simp [vec]
theorem qfk {i:Nat}:(vec n g)[i]? =if i < n then some (g i)else none:=by
 unfold vec;by_cases h:i < n <;> simp [h]
theorem q13 {i:Nat} {a:α} (h:(vec n g)[i]? =some a):i < n∧a=g i:=by
 rw[qfk]at h;split at h
 · exact⟨by assumption,(Option.some.inj h).symm⟩
 · cases h
theorem qgj {i:Nat} (h:i < n):(vec n g)[i]? =some (g i):=by rw[qfk,if_pos h]
theorem quu:vec (n+1) g=vec n g++[g n]:=by simp [vec,List.range_succ]
theorem qee:qnb 0 n=vec n fun i=>.int i:=by simp [qnb,vec]
theorem qxm {a:α}:List.replicate n a=vec n fun _=>a:=by
 refine List.ext_getElem? fun k=> ?_
 rw[qfk,List.getElem?_replicate]
theorem quv (xs:List α) (d:α):xs=vec xs.length fun i=>xs.getD i d:=by
 refine List.ext_getElem? fun k=> ?_
 rw[qfk]
 by_cases h:k < xs.length
 · rw[if_pos h];simp [h]
 · rw[if_neg h];simp;omega
end
theorem qbc {n:Nat} (h:n≤1000):n < sizeLine:=qf1 h
@[simp] theorem q89 {S:Sto}:qa2 .Is .non .non S=.ok (.bl true) S:=(rfl)
@[simp] theorem q8i {S:Sto} {xs:List D}:qa2 .Is (.lst xs) .non S=.ok (.bl false) S:=(rfl)
theorem qxn {Γ:Env} {S:Sto} {src:Src} {n k:Nat} {it g:Nat→D} {hd:D→Env→M Env} {cond:Env→M Bool} {elt:Env→M D} {Q:List D→Sto→Prop} (hs:qas src S)
   (step:∀ i < n,Ok (hd (it i) (List.replicate k none++Γ) S) fun Γ1 S1=>Ok (cond Γ1 S1) fun b S2=>b=true∧Ok (elt Γ1 S2) fun y S3=>y=g i∧S3=S) (fin:Q (vec n g) S):Ok (lcA src k hd cond elt Γ [] (vec n it) S) Q:=by
 refine qpn (fun i a S'=>a=vec i g∧S'=S) ⟨rfl,rfl⟩ (fun i a S' h=>h.2 ▸ hs) (fun i d a S' e h=> ?_) fun a S' h=> ?_
 · obtain ⟨rfl,rfl⟩:=h
   obtain ⟨hi,rfl⟩:=q13 e
   refine(step i hi).mono fun Γ1 S1 q=>q.mono fun b S2 q=> ?_
   obtain ⟨rfl,q⟩:=q
   rw[if_pos rfl]
   refine q.mono fun y S3 q=> ?_
   obtain ⟨rfl,rfl⟩:=q
   exact⟨by rw[quu],rfl⟩
 · obtain ⟨rfl,rfl⟩:=h
   rw[qhr]
   exact fin
theorem quw {S:Sto} {xs:List D}:biF (.list true) [.lst xs] S=.ok (.ref S.length) (S++[.lst xs]):=rfl
@[simp] theorem q7c {i:Int} {S:Sto}:biF .isi [.int i,.ty "int"] S=.ok (.bl true) S:=(rfl)
@[simp] theorem q7d {i:Int} {S:Sto}:biF .isi [.int i,.ty "bool"] S=.ok (.bl false) S:=(rfl)
@[simp] theorem q7e {b:Bool} {S:Sto}:qrl (.bl b) S=.ok b S:=(rfl)
theorem qxo:∀ {n:Nat} {S:Sto},biF .all [.lst (vec n fun _=>.bl true)] S=.ok (.bl true) S:=by
 intro n S
 have e:∀ n,qbp (vec n fun _=>D.bl true)=some (List.replicate n true):=fun n=>by
   rw[← qxm]
   induction n with
   | zero=>rfl
   | succ n ih=>rw[List.replicate_succ,qbp,ih];rfl
 show qgt qpb [.lst (vec n fun _=>.bl true)] S=_
 simp only [qgt,look,qpb,e]
 simp
@[simp] theorem q5y {i:Int} {S:Sto}:asI (.int i) S=.ok (some i) S:=(rfl)
theorem qux {α:Type} {xs:List α} {k:Nat}:xs.take (min k xs.length)=xs.take k:=by
 rcases Nat.le_total k xs.length with h | h
 · rw[Nat.min_eq_left h]
 · rw[Nat.min_eq_right h,List.take_length,List.take_of_length_le h]
theorem q14 {xs:List D} {k:Nat}:cutD xs none (some (k:Int))=xs.take k:=by
 unfold cutD;rw[HT.sIx_none,HT.sIx_nat,List.drop_zero,Nat.sub_zero,qux]
theorem quy {xs:List D} {k:Nat}:cutD xs (some (k:Int)) none=xs.drop k:=by
 unfold cutD;rw[HT.sIx_none,HT.sIx_nat]
 rcases Nat.le_total k xs.length with h | h
 · rw[Nat.min_eq_left h,List.take_of_length_le (by simp)]
 · rw[Nat.min_eq_right h,List.drop_length,List.drop_of_length_le h];simp
theorem quz {xs:List D} {k:Nat} {S:Sto}:slM false (.lst xs) none (some (k:Int)) S=.ok (.lst (xs.take k)) S:=by
 show alloc false (.lst (cutD xs none (some (k:Int)))) S=_
 rw[q14];rfl
theorem qxp {xs:List D} {k:Nat} {S:Sto}:slM false (.lst xs) (some (k:Int)) none S=.ok (.lst (xs.drop k)) S:=by
 show alloc false (.lst (cutD xs (some (k:Int)) none)) S=_
 rw[quy];rfl
theorem qu0 {α:Type} {l:List α} {e g:α→D} {p:α→Bool} {Γ:Env} {S:Sto} {src:Src} {k:Nat} {hd:D→Env→M Env} {cond:Env→M Bool} {elt:Env→M D} {Q:List D→Sto→Prop} (hs:qas src S)
   (step:∀ x ∈ l,Ok (hd (e x) (List.replicate k none++Γ) S) fun Γ1 S1=>Ok (cond Γ1 S1) fun b S2=>b=p x∧if b=true then Ok (elt Γ1 S2) fun y S3=>y=g x∧S3=S else S2=S) (fin:Q ((l.filter p).map g) S):Ok (lcA src k hd cond elt Γ [] (l.map e) S) Q:=by
 refine qpn (fun i a S'=>S'=S∧a=((l.take i).filter p).map g) ⟨rfl,by simp⟩ (fun i a S' h=>h.1 ▸ hs) (fun i d a S' ed h=> ?_) fun a S' h=> ?_
 · obtain ⟨rfl,rfl⟩:=h
   rw[List.getElem?_map]at ed
   cases e1:l[i]? with
   | none=>rw[e1]at ed;cases ed
   | some x =>
     rw[e1]at ed
     cases ed
     refine(step x (List.mem_of_getElem? e1)).mono fun Γ1 S1 q=>q.mono fun b S2 q=> ?_
     obtain ⟨hb,q⟩:=q
     have ht:l.take (i+1)=l.take i++[x]:=by rw[List.take_succ,e1];rfl
     cases b with
     | true =>
       rw[if_pos rfl]at q ⊢
       refine q.mono fun y S3 q=> ?_
       obtain ⟨rfl,rfl⟩:=q
       exact⟨rfl,by rw[ht,List.filter_append,List.map_append];simp [← hb]⟩
     | false =>
       rw[if_neg Bool.false_ne_true]at q ⊢
       exact⟨q,by rw[ht,List.filter_append,List.map_append];simp [← hb]⟩
 · obtain ⟨rfl,rfl⟩:=h
   rw[List.length_map,List.take_length]
   exact fin
theorem qcg {α:Type} {l:List α} {e g:α→D} {Γ:Env} {S:Sto} {src:Src} {k:Nat} {hd:D→Env→M Env} {cond:Env→M Bool} {elt:Env→M D} {Q:List D→Sto→Prop} (hs:qas src S)
   (step:∀ x ∈ l,Ok (hd (e x) (List.replicate k none++Γ) S) fun Γ1 S1=>Ok (cond Γ1 S1) fun b S2=>b=true∧Ok (elt Γ1 S2) fun y S3=>y=g x∧S3=S) (fin:Q (l.map g) S):Ok (lcA src k hd cond elt Γ [] (l.map e) S) Q:=by
 refine qu0 (p:=fun _=>true) (g:=g) hs (fun x hx=> ?_) (by rw[List.filter_eq_self.mpr fun _ _=>rfl];exact fin)
 refine(step x hx).mono fun Γ1 S1 q=>q.mono fun b S2 q=> ?_
 obtain ⟨rfl,q⟩:=q
 exact⟨rfl,by rw[if_pos rfl];exact q⟩
section
variable {S:Sto} {n:Nat} {w c:Nat→Int} {R:Nat→Nat→Int} {t:Nat→Nat→Bool} {P:D→Sto→Prop} {ts:Option (List (Nat × Nat))} {x y z u:D}
theorem qxq {f g:Nat→D}:qcv (vec n f) (vec n g)=vec n fun i=>.tup [f i,g i]:=by
 refine List.ext_getElem? fun k=> ?_
 rw[qfk]
 by_cases h:k < n
 · rw[if_pos h,qlm (qgj h) (qgj h)]
 · rw[if_neg h,List.getElem?_eq_none_iff]
   have:∀ (xs ys:List D),(qcv xs ys).length≤xs.length:=by
     intro xs
     induction xs with
     | nil=>intro ys;simp [qcv]
     | cons x xs ih=>intro ys;cases ys <;> simp [qcv];exact ih _
   have:=this (vec n f) (vec n g)
   simp at this;omega
end
theorem qnn {a b:Bool} {S:Sto}:qa2 .NotEq (.bl a) (.bl b) S=.ok (.bl (a != b)) S:=by cases a <;> cases b <;> rfl
theorem qu1 {a b:Bool} {S:Sto}:qa2 .Eq (.bl a) (.bl b) S=.ok (.bl (a==b)) S:=by cases a <;> cases b <;> rfl
@[simp] theorem q5z {d:Nat}:qai [qo d] (qe1 d) 0=qaz 2 (qo d):=(rfl)
theorem same_int {m:Nat} {a:Int} {S:Sto} {P:D→Sto→Prop} (k:P (.bl true) S):Ok (qo (m+1) [.int a,.int a] S) P:=by
 unfold qo
 refine Ok.run ?_
 unfold qbi
 have i1:∀ (b:Int) S,biF .isi [.int b,.ty "list"] S=.ok (.bl false) S:=fun _ _=>rfl
 have i2:∀ (b:Int) S,biF .isi [.int b,.ty "tuple"] S=.ok (.bl false) S:=fun _ _=>rfl
 have i5:∀ (b:Int) S,biF .isi [.int b,.ty "str"] S=.ok (.bl false) S:=fun _ _=>rfl
 have i6:∀ (b:Int) S,qa2 .Is (.int b) .non S=.ok (.bl false) S:=fun _ _=>rfl
 ((try simp);rw[qa];try simp [i1,i2])
 ((try simp);rw[qa];try simp [i6])
 ((try simp);rw[qa];try simp [qnn])
 ((try simp);rw[qa];try simp [i5,qu1])
 exact k
theorem qqs {α:Type} {b:α→Bool}:∀ {l:List α},qbp (l.map fun a=>D.bl (b a))=some (l.map b)
 | []=>rfl
 | a::l=>by
   have:=qqs (b:=b) (l:=l)
   show (qbp (l.map fun a=>D.bl (b a))).map (b a::·)=_
   rw[this];rfl
theorem all_map {α:Type} {b:α→Bool} {l:List α} {S:Sto}:biF .all [.lst (l.map fun a=>.bl (b a))] S=.ok (.bl (l.all b)) S:=by
 show qgt qpb [.lst (l.map fun a=>.bl (b a))] S=_
 simp [qgt,qpb,qqs]
section
variable {n:Nat} {w:Nat→Int} {ts:Option (List (Nat × Nat))} {ls:List Nat} {S:Sto} {P:D→Sto→Prop} {x y z:D}
theorem qb3 {xs ys:List D} (h:xs.length+ys.length≤1000):qha false .Add (.lst xs) (.lst ys) S=.ok (.lst (xs++ys)) S:=by
 show (if sizeOk (xs.length+ys.length)then alloc false (.lst (xs++ys))else M.fail) S=_
 rw[if_pos (qal h)];rfl
end
end T3
namespace L2
open PySem PySem.Spec PyProof.Rows
section
variable {X:Cx} {pins:List (Addr × Obj)} {σ:List (Option V)} {H H':Hp} {s:Shared} {h':Heap}
theorem Inv.stepN {g':Array GenState} {t':Nat} {d':Drawn} {ch:List Addr} (I:Inv X pins σ H s)
   (hch:∀ b ∈ ch,(b ∈ X.ex∨X.s₀.heap.get? b=none)∧b ≠ X.env.locals∧(∀ x c,X.env.cells.lookup x=some c→c ≠ b)∧∀ p ∈ X.pn++pins,p.1 ≠ b)
   (keep:∀ b o,b ≠ X.env.locals→b ∉ X.fs→b ∉ ch→s.heap.get? b=some o→H b=none→h'.get? b=some o)
   (slot:∀ b o,b ≠ X.env.locals→b ∈ X.fs→b ∉ ch→s.heap.get? b=some o→H b=none→∃ sl,h'.get? b=some { o with slots:=sl }) (free:∀ b o,b ∉ ch→s.heap.get? b=some o→H b=none→H' b=none)
   (there:∀ b o,b ∉ ch→s.heap.get? b=some o→∃ o',h'.get? b=some o')
   (tups:∀ b xs,H b=some (.tup xs)→H' b=some (.tup xs)) (frzs:∀ b o u,H b=some (.frz o u)→H' b=some (.frz o u)) (tbls:∀ b ps,H b=some (.tbl ps)→∃ more,H' b=some (.tbl (ps++more)))
   (ns:∀ m,s.heap.Ns X.env.locals m→h'.Ns X.env.locals m) (hok:HOk X.prog X.w H' h') (hg:AllBare g') :
   Inv X pins σ H' { s with heap:=h',gens:=g',drawn:=d',toks:=t' }:=by
 have neL:∀ b o,X.s₀.heap.get? b=some o→b ≠ X.env.locals:=fun b o e=>Nat.ne_of_lt (Nat.lt_of_lt_of_le (Heap.lt_size e) I.ok.above)
 have neC:∀ b o,X.s₀.heap.get? b=some o→b ∉ X.ex→b ∉ ch:=fun b o e hx hb=>by
   rcases (hch b hb).1 with z | z
   · exact hx z
   · rw[z]at e;cases e
 have cellK:∀ x c,X.env.cells.lookup x=some c→∀ v,s.heap.IsCell c v→h'.IsCell c v:=fun x c e v ⟨o,ho,hd⟩=>by
   have nch:c ∉ ch:=fun z=>(hch c z).2.2.1 x c e rfl
   by_cases hc:c ∈ X.fs
   · obtain ⟨sl,q⟩:=slot c o (I.cne x c e) hc nch ho (I.freeC x c e)
     exact⟨_,q,hd⟩
   · exact⟨o,keep c o (I.cne x c e) hc nch ho (I.freeC x c e),hd⟩
 refine⟨I.ok,I.os,hg,⟨fun b o e n hb hx=> ?_,fun b o e n hb hx=> ?_,fun b o e n hx=> ?_,fun b o e hx=> ?_,fun b xs e=>tups b xs (I.base.tups b xs e),fun b o xs e=>frzs b o xs (I.base.frzs b o xs e),fun b ps e=> ?_⟩,?_,fun x c e=> ?_,?_,fun x c e=> ?_,fun p hp=> ?_,hok,I.len⟩
 · exact keep b o (neL b o e) hb (neC b o e hx) (I.base.keep b o e n hb hx) (I.base.free b o e n hx)
 · obtain ⟨sl,e1⟩:=I.base.slot b o e n hb hx
   obtain ⟨sl',e2⟩:=slot b _ (neL b o e) hb (neC b o e hx) e1 (I.base.free b o e n hx)
   exact⟨sl',e2⟩
 · obtain ⟨o',e1⟩:=I.base.there b o e hx
   exact free b o' (neC b o e hx) e1 (I.base.free b o e n hx)
 · obtain ⟨o',e1⟩:=I.base.there b o e hx
   exact there b o' (neC b o e hx) e1
 · obtain ⟨m1,e1⟩:=I.base.tbls b ps e
   obtain ⟨m2,e2⟩:=tbls b _ e1
   exact⟨m1++m2,by rw[e2,Array.append_assoc]⟩
 · obtain ⟨m,hn,hl⟩:=I.loc
   refine⟨m,ns m hn,fun i x v e1 e2 e3=> ?_⟩
   obtain ⟨u,r,l⟩:=hl i x v e1 e2 e3
   refine⟨u,r,?_⟩
   rcases l with l | ⟨k,c,e,z⟩
   · exact .inl l
   · exact .inr ⟨k,c,e,cellK x c e _ z⟩
 · obtain ⟨v,z⟩:=I.cell x c e
   exact⟨v,cellK x c e v z⟩
 · obtain ⟨m,⟨o,_,_,ho,_⟩,_⟩:=I.loc
   exact free _ o (fun z=>(hch _ z).2.1 rfl) ho I.free
 · obtain ⟨v,o,ho,hd⟩:=I.cell x c e
   exact free c o (fun z=>(hch c z).2.2.1 x c e rfl) ho (I.freeC x c e)
 · obtain ⟨e,n,ne,nf,d⟩:=I.pin p hp
   have nch:p.1 ∉ ch:=fun z=>(hch p.1 z).2.2.2 p hp rfl
   exact⟨keep p.1 p.2 ne nf nch e n,free p.1 p.2 nch e n,ne,nf,d⟩
theorem Inv.callN {g':Array GenState} {t':Nat} {d':Drawn} {ch:List Addr} (I:Inv X pins σ H s) (u:Un (frs X.stack) ch H H' s.heap h') (hok:HOk X.prog X.w H' h') (hg:AllBare g')
   (hch:∀ b ∈ ch,(b ∈ X.ex∨X.s₀.heap.get? b=none)∧b ≠ X.env.locals∧(∀ x c,X.env.cells.lookup x=some c→c ≠ b)∧∀ p ∈ X.pn++pins,p.1 ≠ b) :
   Inv X pins σ H' { s with heap:=h',gens:=g',drawn:=d',toks:=t' }:=by
 obtain ⟨m,⟨o,es,ep,ho,r⟩,_⟩:=id I.loc
 obtain ⟨sl,hL⟩:=u.any ho I.free fun z=>(hch _ z).2.1 rfl
 exact I.stepN (ch:=ch) hch (fun b o hL hb hc e n=>u.keep b o e n (fun z=>(List.mem_cons.mp (I.stkSub b z)).elim hL hb) hc) (fun b o _ _ hc e n=>u.any e n hc) (fun b o hc e n=>u.free b o e n hc) (fun b o hc e=>u.there b o e hc) u.tups u.frzs u.tbls (fun m' hm=>by
   obtain ⟨o',es',ep',ho',r'⟩:=hm
   rw[ho]at ho';cases ho'
   exact⟨_,es',ep',hL,r'⟩) hok hg
theorem Inv.callN' {s':Shared} {ch:List Addr} (I:Inv X pins σ H s) (ho:s'.os=s.os) (u:Un (frs X.stack) ch H H' s.heap s'.heap) (hok:HOk X.prog X.w H' s'.heap) (hg:AllBare s'.gens)
   (hch:∀ b ∈ ch,(b ∈ X.ex∨X.s₀.heap.get? b=none)∧b ≠ X.env.locals∧(∀ x c,X.env.cells.lookup x=some c→c ≠ b)∧∀ p ∈ X.pn++pins,p.1 ≠ b):Inv X pins σ H' s':=by
 obtain ⟨h',g',d',t',o'⟩:=s'
 have e:o'=s.os:=ho
 subst e
 exact I.callN (g':=g') (t':=t') (d':=d') u hok hg hch
end
structure ExcAt (h:Heap) (e T:Addr) (cls a0:Value):Prop where
 ne:T ≠ e
 ex:∃ (oe:Obj) (vs:Array Value) (oT:Obj) (ts:Array Value),h.get? e=some oe∧(oe.cls=cls∧vs[0]? =some a0)∧oe.data=.fields vs∧vs[1]? =some (.ref T)∧h.get? T=some oT∧oT.data=.fields ts∧ts[3]? =some .none
noncomputable def CXe (P:Program) (w:World):CXT:=fun outer H s E x s'=>∃ (e T:Addr) (cls a0:Value) (H':Hp),x=.ref e∧s'.os=s.os∧AllBare s'.gens∧Un (frs outer) [] H H' s.heap s'.heap∧HOk P w H' s'.heap ∧
 s.heap.get? e=none∧s.heap.get? T=none∧H' e=none∧H' T=none∧ExcAt s'.heap e T cls a0∧E cls none H'
section
variable {X:Cx} {pins:List (Addr × Obj)} {σ:St} {H:Hp} {s:Shared}
theorem Inv.apart (I:Inv X pins σ H s) {b:Addr} (hb:s.heap.get? b=none):(b ∈ X.ex∨X.s₀.heap.get? b=none)∧b ≠ X.env.locals∧(∀ x c,X.env.cells.lookup x=some c→c ≠ b)∧∀ p ∈ X.pn++pins,p.1 ≠ b:=by
 refine⟨?_,?_,fun x c e z=> ?_,fun p hp z=> ?_⟩
 · by_cases hx:b ∈ X.ex
   · exact .inl hx
   · refine .inr ?_
     cases q:X.s₀.heap.get? b with
     | none=>rfl
     | some o =>
       obtain ⟨o',e⟩:=I.base.there b o q hx
       rw[hb]at e;cases e
 · rintro rfl
   obtain ⟨m,⟨o,es,ep,ho,_⟩,_⟩:=I.loc
   rw[hb]at ho;cases ho
 · obtain ⟨v,o,ho,_⟩:=I.cell x c e
   rw[z,hb]at ho;cases ho
 · have:=(I.pin p hp).1
   rw[z,hb]at this;cases this
theorem Inv.xhop {h':Heap} {t':Nat} {ch:List Addr} (I:Inv X pins σ H s) (hch:∀ b ∈ ch,((b ∈ X.ex∨X.s₀.heap.get? b=none)∧b ≠ X.env.locals∧(∀ x c,X.env.cells.lookup x=some c→c ≠ b)∧∀ p ∈ X.pn++pins,p.1 ≠ b)∧H b=none)
   (st:(PySem.W.hideAll s.heap (frs X.stack++ch)).StaysIn h') (up:s.heap.UpToSlots h'):Inv X pins σ H { s with heap:=h',toks:=t' }:=by
 have slot:∀ b o,s.heap.get? b=some o→b ∈ frs X.stack→∃ sl,h'.get? b=some { o with slots:=sl }:=fun b o e hb=>by
   obtain ⟨_,o',ho',hd⟩:=I.stack.mem (b:=b) hb
   rw[e]at ho';cases ho'
   exact up b o e hd
 have keep:∀ b o,s.heap.get? b=some o→b ∉ frs X.stack→b ∉ ch→h'.get? b=some o:=fun b o e h1 h2=>st b o (PySem.W.hideAll_get _ e (by simp [h1,h2]))
 refine I.callN (g':=s.gens) (d':=s.drawn) (ch:=ch) ⟨fun b o e _ h1 h2=>keep b o e h1 h2,fun b o e _ h1 _=>slot b o e h1,fun _ _ _ n _=>n,fun b o e h2=> ?_,fun _ _ q=>q,fun _ _ _ q=>q,fun _ ps q=>⟨#[],by rw[q];simp⟩⟩ (fun b u e=> ?_) I.bare (fun b hb=>(hch b hb).1)
 · by_cases h1:b ∈ frs X.stack
   · obtain ⟨sl,q⟩:=slot b o e h1
     exact⟨_,q⟩
   · exact⟨o,keep b o e h1 h2⟩
 · have no:∀ c v,H c=some v→c ∉ frs X.stack∧c ∉ ch:=fun c v q=>⟨fun z=>(by rw[I.stkFree c z]at q;cases q),fun z=>(by rw[(hch c z).2]at q;cases q)⟩
   refine(I.hok b u e).stay (fun c v hc q=> ?_) (fun _ q=>q) fun _ _ q=>q
   rcases hc with rfl | hc
   · exact keep c v q (no c _ e).1 (no c _ e).2
   · exact keep c v q (no c _ hc).1 (no c _ hc).2
theorem qqt {h:Heap} {b:Addr} {o:Obj} {as:List Addr} (e:h.get? b=some o) (hb:b ∉ as):(PySem.W.hideAll h as).get? b=some o:=PySem.W.hideAll_get _ e hb
end
section
variable {P:Program} {w:World} {K:PySem.W.Frag} {mg:Str→Option Value} {base:Heap} {N:List Str} {qual:Str} {scope:Scope} {f:Addr} {cd:Value} {A:Around} {outer:List Env} {s₀:Shared} {H₀:Hp} {E:XK} {pins:List (Addr × Obj)} {σ:St} {H:Hp} {s:Shared}
theorem qxr {h':Heap} {e:Addr} {cls a0:Value} (I:Inv (qa8 (CXe P w) P w K mg base N qual scope f cd A outer s₀ H₀ E) pins σ H s) (h0:s₀.heap.get? e=none) (hH:H e=none) {ch:List Addr} (hch:∀ b ∈ ch,s₀.heap.get? b=none∧H b=none)
   (hL:Heap.LeftW (PySem.W.hideAll s.heap (frs (envOfC qual scope s₀.heap.objs.size f cd::outer)++(e::ch))) (envOfC qual scope s₀.heap.objs.size f cd::outer) e cls a0 s.heap h') (hE:E cls none H) :
   CXe P w outer H₀ s₀ E (.ref e) { s with heap:=h' }:=by
 obtain ⟨st,ff,⟨oe,vs,T,oT,ts,he,hc,hd,h1,hbT,hTe,hT,hdT,h3⟩,up⟩:=hL
 have I0:=I
 have slot:∀ b o,s.heap.get? b=some o→b ∈ frs (envOfC qual scope s₀.heap.objs.size f cd::outer)→∃ sl,h'.get? b=some { o with slots:=sl }:=fun b o q hb=>by
   obtain ⟨_,o',ho',hdd⟩:=I.stack.mem (b:=b) hb
   rw[q]at ho';cases ho'
   exact up b o q hdd
 have keep:∀ b o,s.heap.get? b=some o→b ∉ frs (envOfC qual scope s₀.heap.objs.size f cd::outer)→b ∉ (e::ch)→h'.get? b=some o:=fun b o q z1 z2=>st b o (qqt q (by simp only [List.mem_append,not_or];exact⟨z1,z2⟩))
 have nfr:∀ b o,s₀.heap.get? b=some o→b ∉ frs outer→b ∉ frs (envOfC qual scope s₀.heap.objs.size f cd::outer):=fun b o q hb z=>by
   have z':b ∈ s₀.heap.objs.size::frs outer:=z
   rcases List.mem_cons.mp z' with r | r
   · exact absurd (Heap.lt_size q) (by rw[r];exact Nat.lt_irrefl _)
   · exact hb r
 have nch:∀ b o,s₀.heap.get? b=some o→b ∉ (e::ch):=fun b o q z=>by
   rcases List.mem_cons.mp z with r | r
   · rw[r,h0]at q;cases q
   · rw[(hch b r).1]at q;cases q
 have sub:∀ b,b ∈ frs outer→b ∈ frs (envOfC qual scope s₀.heap.objs.size f cd::outer):=fun b z=>List.mem_cons_of_mem (a:=b) (y:=s₀.heap.objs.size) z
 have tnew:s.heap.get? T=none∨T ∈ (e::ch):=by
   cases q:s.heap.get? T with
   | none=>exact .inl rfl
   | some o =>
     by_cases z1:T ∈ frs (envOfC qual scope s₀.heap.objs.size f cd::outer)
     · exfalso
       obtain ⟨_,o',ho',hdd⟩:=I.stack.mem (b:=T) z1
       rw[q]at ho';cases ho'
       obtain ⟨sl,r⟩:=up T o q hdd
       rw[hT]at r;cases r
       exact hdd ts hdT
     · by_cases z2:T ∈ (e::ch)
       · exact .inr z2
       · exfalso
         have:=qqt (as:=frs (envOfC qual scope s₀.heap.objs.size f cd::outer)++(e::ch)) q (by simp only [List.mem_append,not_or];exact⟨z1,z2⟩)
         rw[hbT]at this;cases this
 have t0 :s₀.heap.get? T=none∧H T=none:=by
   rcases tnew with z | z
   · refine⟨?_,?_⟩
     · cases q:s₀.heap.get? T with
       | none=>rfl
       | some o =>
         obtain ⟨o',r⟩:=I.base.there T o q (by show T ∉ ([]:List Addr);simp)
         rw[z]at r;cases r
     · cases q:H T with
       | none=>rfl
       | some u =>
         have:=(I.hok T u q).lt
         exfalso
         have hk:=I.hok T u q
         cases u with
         | lst xs=>obtain ⟨_,_,_,_,r⟩:=hk;rw[z]at r;cases r
         | tup xs=>obtain ⟨_,_,_,ob,r,_⟩:=hk;rw[z]at r;cases r
         | dK kvs=>obtain ⟨_,_,_,_,ob,_,_,r,_⟩:=hk;rw[z]at r;cases r
         | dT kvs=>obtain ⟨_,_,_,_,ob,_,_,r,_⟩:=hk;rw[z]at r;cases r
         | set S n=>obtain ⟨ob,_,_,_,r,_⟩:=hk;rw[z]at r;cases r
         | ins C dx fs=>obtain ⟨_,_,_,r,_⟩:=hk;rw[z]at r;cases r
         | own y=>obtain ⟨_,r⟩:=hk;rw[z]at r;cases r
         | xd fs=>obtain ⟨_,⟨_,_,_,r,_⟩,_⟩:=hk;rw[z]at r;cases r
         | rng lo hi=>obtain ⟨_,_,_,r⟩:=hk;rw[z]at r;cases r
         | frz ob u=>obtain ⟨r,_⟩:=hk;rw[z]at r;cases r
         | tbl ps=>rw[show s.heap.get? T=some _ from hk]at z;cases z
         | met f y=>rw[show s.heap.get? T=some _ from hk]at z;cases z
         | ext φ=>obtain ⟨_,⟨_,r⟩,_⟩:=hk;rw[z]at r;cases r
   · rcases List.mem_cons.mp z with r | r
     · exact absurd r hTe
     · exact hch T r
 refine⟨e,T,cls,a0,H,rfl,I.os,I.bare,⟨fun b o q n hb _=> ?_,fun b o q n hb _=> ?_,fun b o q n _=>I.base.free b o q n (by show b ∉ ([]:List Addr);simp),fun b o q _=> ?_,I.base.tups,I.base.frzs,I.base.tbls⟩,fun b u q=> ?_,h0,t0.1,hH,t0.2,⟨hTe,oe,vs,oT,ts,he,hc,hd,h1,hT,hdT,h3⟩,hE⟩
 · exact keep b o (I.base.keep b o q n hb (by show b ∉ ([]:List Addr);simp)) (nfr b o q hb) (nch b o q)
 · obtain ⟨sl,r⟩:=I.base.slot b o q n hb (by show b ∉ ([]:List Addr);simp)
   obtain ⟨sl',r'⟩:=slot b _ r (sub b hb)
   exact⟨sl',r'⟩
 · obtain ⟨o',r⟩:=I.base.there b o q (by show b ∉ ([]:List Addr);simp)
   by_cases z1:b ∈ frs (envOfC qual scope s₀.heap.objs.size f cd::outer)
   · obtain ⟨sl,r'⟩:=slot b _ r z1
     exact⟨_,r'⟩
   · exact⟨o',keep b o' r z1 (nch b o q)⟩
 · have no:∀ c v,H c=some v→c ∉ frs (envOfC qual scope s₀.heap.objs.size f cd::outer)∧c ∉ (e::ch):=fun c v q=>by
     refine⟨fun z=> ?_,fun z=> ?_⟩
     · rw[I.stkFree c z]at q;cases q
     · rcases List.mem_cons.mp z with r | r
       · rw[r,hH]at q;cases q
       · rw[(hch c r).2]at q;cases q
   refine(I.hok b u q).stay (fun c v hc q'=> ?_) (fun _ q=>q) fun _ _ q=>q
   rcases hc with rfl | hc
   · exact keep c v q' (no c _ q).1 (no c _ q).2
   · exact keep c v q' (no c _ hc).1 (no c _ hc).2
end
theorem PS.nox {X:Cx} {st:Stmt} {t:TS} (h:PS X.nox st t):PS X st t:=fun pins s σ H D I hw =>
 wpAny_mono (h pins s σ H D (I.wish _) hw) (fun _ _ q=>q.unwish) fun _ _ z=>False.elim z
theorem Fun.okX {P:Program} {w:World} {K:PySem.W.Frag} {mg:Str→Option Value} {base:Heap} {x qual:Str} {st:Stmt} {f:Addr} {fd:FuncData} {N ps:List Str} {k:Nat} {sp:Sp} (F:Fun K x qual st f fd) (S:qan N ps (qb st)) (len:∀ vs H Q E,sp vs H Q E→vs.length=ps.length)
   (hbody:∀ (cdv:Value) (A:Around) (outer:List Env) (s:Shared) (H:Hp) (vs:List V) (Q:VK) (E:XK),qaw k (A.deeper (envOfC qual (qb st) s.heap.objs.size f cdv))→sp vs H Q E →
     ∃ t,PSs (qa8 (CXe P w) P w K mg base N qual (qb st) f cdv A outer s H E) (qq st) t∧t { nx:=fun _ H'=>Q .non H',rt:=Q } (start N vs) H):qay P w K mg base (CXe P w) (k+1) f fd ps sp:=by
 obtain ⟨oc,od,kV,doc,pm,an,cdv,ct,osl,rfl,lk,hcd⟩:=F.ex
 exact qqb lk hcd S len fun A outer s H vs Q E hr hsp=>hbody cdv A outer s H vs Q E hr hsp
section
variable {prog:Program} {w:World} {A:Around} {hp:Heap} {g:Array GenState} {dr:Drawn} {tk:Nat} {os:OsState}
variable {nm qn:Str} {C N:Addr} {bs bm:List Value} {hdct:Bool} {sn:List Str} {sub:List Value} {ab:Bool} {col:Option Bool} {dd:Option Addr} {k0 k1 k2 k3 k5:Option Value}
structure Above (bm:List Value):Prop where
 ve:bm.contains (.type "ValueError")=true
 be:bm.contains (.type "BaseException")=true
 at_:bm.contains (.type "AttributeError")=false
 na:bm.contains (.type "NameError")=false
noncomputable abbrev qc1 (nm qn:Str) (C N:Addr) (bs bm:List Value) (hdct:Bool) (sn:List Str) (sub:List Value) (ab:Bool) (col:Option Bool) (dd:Option Addr) (k0 k1 k2 k3 k5:Option Value):Obj:=excClassObj nm qn C N bs bm hdct sn sub ab col dd k0 k1 k2 k3 k5 "ValueError.__new__"
theorem qu2 {R:Result→Shared→Prop} {rest:List Value} (B:Above bm) (hC:hp.get? C=some (qc1 nm qn C N bs bm hdct sn sub ab col dd k0 k1 k2 k3 k5)) (hz:rest.length≤sizeLine)
   (k:R (.ok (.ret (.ref (hp.objs.size+1)))) ⟨(hp.push { cls:=.type "tuple",data:=.seq rest.toArray }).push { cls:=.ref C,data:=.fields #[.ref hp.objs.size,.none,.none,.none,.bool false,.none] },g,dr,tk,os⟩) :
   codeAny (model prog w) A (.builtin "ValueError.__new__" ⟨.ref C::rest,[]⟩) R ⟨hp,g,dr,tk,os⟩:=by
 have F:=PySem.F.excBase_ValueError
 have en:=F.ends
 have c1:(Value.ref C::bm).contains (.type "ValueError")=true:=by rw[List.contains_cons,B.ve,Bool.or_true]
 have c2:(Value.ref C::bm).contains (.type "AttributeError")=false:=by rw[List.contains_cons,B.at_];rfl
 have c3:(Value.ref C::bm).contains (.type "NameError")=false:=by rw[List.contains_cons,B.na];rfl
 refine codeAny_builtinAt F.entry ?_
 unfold Builtin.«BaseException.__new__»
 refine PySem.wpAt_bind ?_
 show PySem.wpAt _ _ _ (stack >>= _) _ _ _
 refine PySem.wpAt_bind (PySem.wpAt_stack fun p below=>PySem.wpAt_of_wpAny ?_)
 wp_walk
 refine PySem.wpAt_of_wpAny ?_
 rw[F.owner]
 repeat (first
   | with_reducible refine wpAny_madeHere_exc F.canon hC ?_
   | with_reducible refine wpAny_loadPart_at hC ?_
   | (with_reducible refine wpAny_isSubtype_exc hC ?_;first | rw[c1] | rw[c2] | rw[c3])
   | wp_step)
 show R _ _
 rw[Heap.size_push]
 exact k
theorem qit {E:Value→Shared→Prop} {Q:PySem.Fin→Shared→Prop} {rest:List Value} {mN:Str→Option Value} {fI:Addr} {oI:Obj} (B:Above bm) (hC:hp.get? C=some (qc1 nm qn C N bs bm hdct sn sub ab col dd k0 k1 k2 k3 k5)) (hz:rest.length≤sizeLine)
   (hN:hp.Ns N mN) (hI:mN "__init__"=some (.ref fI)) (hf:hp.get? fI=some oI) (hfc:oI.cls=.type "function")
   (k:∀ h' e,hp.objs.size≤e→Heap.MadeExcOf hp h' e (.ref C) rest→wpAny (model prog w) A (call (.ref fI) (.ref e::rest)) (fun r s'=>r=.none∧Q (.done (.ret (.ref e))) s') E ⟨h',g,dr,tk,os⟩) :
   wpAny (model prog w) A (Builtin.«type.__call__» ⟨.ref C::rest,[]⟩) Q E ⟨hp,g,dr,tk,os⟩:=by
 have F:=PySem.F.excBase_ValueError
 have T:OwnTail hp bm bm:=.base
 repeat (first
   | with_reducible refine wpAny_loadPart_at hC ?_
   | with_reducible refine wpAny_madeBy_exc hC ?_
   | wp_step)
 refine codeAny_call_builtin_code (Code.quiet_builtin _ F.quiet) (wpAny_check_new_subU F B.ve T hC ?_)
 refine qu2 B hC hz ?_
 show wpAny _ _ _ _ _ _
 generalize ht0:({ cls:=.type "tuple",data:=.seq rest.toArray }:Obj)=ot
 generalize he0:({ cls:=.ref C,data:=.fields #[.ref hp.objs.size,.none,.none,.none,.bool false,.none] }:Obj)=oe
 have keep:∀ b o,hp.get? b=some o→((hp.push ot).push oe).get? b=some o:=fun b o q=>Heap.get?_push_of_some _ (Heap.get?_push_of_some _ q)
 have hC2:=keep _ _ hC
 have hf2:=keep _ _ hf
 have hN2:((hp.push ot).push oe).Ns N mN:=hN.keeps keep
 have hat:((hp.push ot).push oe).get? (hp.objs.size+1)=some oe:=by
   have:=Heap.get?_push_size (hp.push ot) (o:=oe) (by subst he0;rfl)
   rw[Heap.size_push]at this
   exact this
 have hcl:oe.cls=.ref C:=by subst he0;rfl
 have cC:(Value.ref C::bm).contains (.ref C)=true:=by simp
 have sz:(hp.push ot).objs.size=hp.objs.size+1:=Heap.size_push ..
 unfold isInstance
 repeat (first
   | (with_reducible refine wpAny_loadPart_at hat ?_;rw[hcl])
   | (with_reducible refine wpAny_isSubtype_exc hC2 ?_;rw[cC])
   | wp_step)
 show wpAny _ _ (typeLookup (.ref C) _) _ _ _
 rw[typeLookup_eq]
 refine wpAny_bind (wpAny_mroOf_exc hC2 ?_)
 rw[lookupAlong_cons]
 refine wpAny_bind (wpAny_classOwn_exc hC2 hN2 ?_)
 rw[hI]
 refine wpAny_pure (wpAny_holding (wpAny_bind ?_))
 unfold bindSpecial
 refine wpAny_bind (wpAny_typeOf (T:="function") ⟨_,hf2,hfc⟩ ?_)
 rw[if_pos (by decide)]
 refine wpAny_pure (wpAny_bind (wpAny_mono (k _ (hp.objs.size+1) (Nat.le_succ _) ⟨keep,Heap.get?_none_of_le (Nat.le_succ _),hp.objs.size,by subst he0;exact hat,Heap.get?_none_of_le (Nat.le_refl _),?_⟩) (fun r s' hr=> ?_) fun _ _ x=>x))
 · subst ht0
   exact Heap.get?_push_of_some _ (Heap.get?_push_size hp rfl)
 · obtain ⟨rfl,hQ⟩:=hr
   wp_walk
   exact hQ
theorem qr0 {E:Value→Shared→Prop} {Q:Value→Shared→Prop} {rest:List Value} {mN:Str→Option Value} {fI:Addr} {oI:Obj} (B:Above bm) (hC:hp.get? C=some (qc1 nm qn C N bs bm hdct sn sub ab col dd k0 k1 k2 k3 k5)) (hz:rest.length≤sizeLine)
   (hN:hp.Ns N mN) (hI:mN "__init__"=some (.ref fI)) (hf:hp.get? fI=some oI) (hfc:oI.cls=.type "function")
   (k:∀ h' e,hp.objs.size≤e→Heap.MadeExcOf hp h' e (.ref C) rest→wpAny (model prog w) (A.under (.builtin "type.__call__" ⟨.ref C::rest,[]⟩)) (call (.ref fI) (.ref e::rest)) (fun r s'=>r=.none∧Q (.ref e) s') E ⟨h',g,dr,tk,os⟩) :
   wpAny (model prog w) A (call (.ref C) rest) Q E ⟨hp,g,dr,tk,os⟩:=by
 have l1:=tc_lookup
 have l2:=tc_bind (.ref C)
 have ty:(⟨hp,g,dr,tk,os⟩:Shared).TypeIs (.ref C) "type":=⟨_,hC,rfl⟩
 refine wpAny_call (codeAny_of_tree ?_)
 show wpAny _ _ (callAny (.ref C) _) _ _ _
 repeat (any_goals (first
   | assumption
   | with_reducible refine wpAny_loadPart_at hC ?_
   | wp_step))
 refine⟨rfl,?_⟩
 refine codeAny_call_builtin_at (Code.quiet_builtin _ (by decide +kernel)) entry_typeCall ?_
 refine wpAny_check_type_call_sub hC ?_
 exact qit B hC hz hN hI hf hfc k
end
noncomputable def exO (C e:Addr) (bare:Bool):HO:=.ext fun h=>∃ (o:Obj) (vs:Array Value) (t:Addr),h.get? e=some o∧o.cls=.ref C∧o.data=.fields vs∧vs.size=6∧vs[0]? =some (.ref t)∧vs[1]? =some .none∧(bare=true→o.dict=none)
theorem qpp {P:Program} {w:World} {H:Hp} {h:Heap} {C e:Addr} {b:Bool} {o:Obj} {vs:Array Value} {t:Addr} (h1:h.get? e=some o) (h2:o.cls=.ref C) (h3:o.data=.fields vs) (h4:vs.size=6) (h5:vs[0]? =some (.ref t)) (h6:vs[1]? =some .none) (h7:b=true→o.dict=none):qad P w H h e (exO C e b) :=
 ⟨⟨o,vs,t,h1,h2,h3,h4,h5,h6,h7⟩,⟨o,h1⟩,fun a c ⟨o',vs',t',q1,q2⟩ k=>⟨o',vs',t',k o' q1,q2⟩⟩
theorem ql5 {P:Program} {w:World} {H:Hp} {h:Heap} {C e:Addr} {b:Bool} (x:qad P w H h e (exO C e b)):∃ (o:Obj) (vs:Array Value) (t:Addr),h.get? e=some o∧o.cls=.ref C∧o.data=.fields vs∧vs.size=6∧vs[0]? =some (.ref t)∧vs[1]? =some .none∧(b=true→o.dict=none):=x.1
structure qeq (K:PySem.W.Frag) (C f:Addr):Prop where
 obj:∀ h:Heap,K.In h→∃ nm qn N bs bm hdct sn sub ab col dd k0 k1 k2 k3 k5 mN,h.get? C=some (qc1 nm qn C N bs bm hdct sn sub ab col dd k0 k1 k2 k3 k5)∧Above bm∧h.Ns N mN∧mN "__init__"=some (.ref f)
 fn:∀ h:Heap,K.In h→∃ o,h.get? f=some o∧o.cls=.type "function"
 kp:PySem.W.keepIn K (.ref C)=true
section
variable {X:Cx} {CX:CXT} {k:Nat} {f C:Addr} {fd:FuncData} {ps:List Str} {sp:Sp} {dvs:List V} {ds:List Value} {E:XK} {x:Str} {p pos:Pos} {e:Expr} {es:List Expr} {t:TA}
noncomputable def q43 (h₀:Heap) (C:Addr) (sp:Sp) (dvs:List V) (E:XK) (t:TA):TE:=fun σ H Q=>t σ H fun vs H1=>vs.length≤sizeLine∧∀ a,H1 a=none→h₀.get? a=none→sp (.ref a::(vs++dvs)) (upd H1 a (exO C a true)) (fun v H2=>v=.non∧Q (.ref a) H2) E
theorem qxs {pins:List (Addr × Obj)} {σ:St} {H:Hp} {s:Shared} {Q:VK} {us:List Value} {vs:List V} (M:qeq X.K C f) (F:qay X.prog X.w X.K X.mg X.base CX k f fd ps sp) (hr:qaw (k+1) X.A) (hb:Binds X.K fd ps ds) (hd:Vals dvs ds)
   (hx:Passes CX X E) (I:Inv X pins σ H s) (r:Vals vs us) (hz:vs.length≤sizeLine) (hex:X.ex=[])
   (h:∀ a,H a=none→X.s₀.heap.get? a=none→sp (.ref a::(vs++dvs)) (upd H a (exO C a true)) (fun v H2=>v=.non∧Q (.ref a) H2) E) :
   wpAny (model X.prog X.w) X.A (call (.ref C) us) (EP X pins σ Q) X.xe s:=by
 obtain ⟨nm,qn,N,bs,bm,hdct,sn,sub,ab,col,dd,k0,k1,k2,k3,k5,mN,hC,hB,hN,hI⟩:=M.obj _ I.kIn
 obtain ⟨oI,hf,hfc⟩:=M.fn _ I.kIn
 obtain ⟨hh,g,d,tk,os⟩:=s
 refine qr0 hB hC (by rw[← r.length];exact hz) hN hI hf hfc fun h' a ha mx=> ?_
 have hfr:H a=none:=I.hok.fresh ha
 have h00:X.s₀.heap.get? a=none:=by
   cases q:X.s₀.heap.get? a with
   | none=>rfl
   | some o =>
     obtain ⟨o',q'⟩:=I.base.there a o q (by rw[hex];simp)
     exact absurd (Heap.lt_size q') (Nat.not_lt.mpr ha)
 have hq:=h a hfr h00
 obtain ⟨t0,he,ht,htt⟩:=mx.there
 have I2:Inv X pins σ (upd H a (exO C a true)) { heap:=h',gens:=g,drawn:=d,toks:=tk,os:=os }:=I.laid (t':=tk) mx.keeps ha (qpp he rfl rfl rfl rfl rfl fun _=>rfl)
 have r2:Vals (V.ref a::(vs++dvs)) (Value.ref a::(us++ds)):=.cons rfl (r.append hd)
 have hl:(Value.ref a::us++ds).length=ps.length:=by
   have e:=r2.length
   rw[F.len _ _ _ _ hq]at e
   exact e.symm
 refine wpAny_call (codeAny_mono (F.run _ X.stack _ _ ⟨Value.ref a::us,[]⟩ (Value.ref a::(us++ds)) _ _ E (hr.make C us []) (I2.env0.make C us []) (hb _ (Value.ref a::us) I2.kIn hl) r2 hq) fun r s' hq'=> ?_)
 cases r with
 | error e=>exact hx pins σ _ _ e s' I2 hq'
 | ok fl =>
   cases fl <;> first | exact False.elim hq' | skip
   obtain ⟨v,H',I3,rv,ev,q3⟩:=I2.after hq'
   subst ev
   exact⟨rv,⟨V.ref a,H',I3,rfl,q3⟩⟩
theorem q15 (M:qeq X.K C f) (F:qay X.prog X.w X.K X.mg X.base CX k f fd ps sp) (hr:qaw (k+1) X.A) (hg:Gl X x) (hm:X.mg x=some (.ref C)) (hb:Binds X.K fd ps ds) (hd:Vals dvs ds) (hx:Passes CX X E)
   (ha:PA X (e::es) t) (hdb:(x==("__debug__":Str))=false) (he:starEach (e::es) X.env=(false,eval e X.env)::starEach es X.env) (hpl:(backTo pos (starEach es X.env)).any (·.1)=false) (hex:X.ex=[]) :
   PE X (.Call (.Name x p) (e::es) [] pos) (q43 X.s₀.heap C sp dvs E t):=by
 intro pins s σ H Q I h
 refine wpAny_Call_Name_kw (qbs I hg hm ?_ hdb)
 refine PySem.W.callWith_K (h₀:=X.base) I.ok.mod.kin M.kp (thn (ha pos pins s σ H _ I h) fun us s1 ⟨vs,H1,I1,r,z,q⟩=>⟨I1.kIn,?_⟩) he hpl
 exact qxs M F hr hb hd hx I1 r z hex q
end
structure qu3 (K:PySem.W.Frag) (C:Addr) (name:Str) (f:Addr):Prop where
 sp:PySem.W.specialIn K (.ref C) "__getattribute__"=some (some (.builtin "type.__getattribute__"))
 rd:PySem.W.readsIn K C (.type "type")=true
 fd:PySem.W.findCls K (.ref C) (.type "type") name=some (.val (.ref f))
 hd:PySem.W.handedIn (.ref f)=true
 kp:PySem.W.keepIn K (.ref f)=true
section
variable {X:Cx} {CX:CXT} {k:Nat} {f C:Addr} {fd:FuncData} {ps:List Str} {sp:Sp} {dvs:List V} {ds:List Value} {E:XK} {x m:Str} {p pos apos:Pos} {e:Expr} {es:List Expr} {t:TA}
theorem qu4 {pl:Sem Bool} (M:qu3 X.K C m f) (F:qay X.prog X.w X.K X.mg X.base CX k f fd ps sp) (hr:qaw k X.A) (hg:Gl X x) (hm:X.mg x=some (.ref C)) (hb:Binds X.K fd ps ds) (hd:Vals dvs ds) (hx:Passes CX X E)
   (ha:PA X (e::es) t) (hdb:(x==("__debug__":Str))=false) (he:starEach (e::es) X.env=(false,eval e X.env)::starEach es X.env) (hpl:(backTo pos (starEach es X.env)).any (·.1)=false)
   (ht:eval (.Call (.Attribute (.Name x p) m apos) (e::es) [] pos) X.env=(do
     let ov ← eval (.Name x p) X.env
     standAt apos.atName
     let (f,first) ← holding [ov] (getMethod ov m pl)
     callWith pos f first (backTo pos (starEach (e::es) X.env)) (backToKw pos (keywordEach [] X.env))):=by rfl) :
   PE X (.Call (.Attribute (.Name x p) m apos) (e::es) [] pos) (qp9 sp dvs E t):=by
 intro pins s σ H Q I h
 refine PySem.W.methodCall_KW (pl:=pl) (qbs I hg hm ?_ hdb) ht
 refine PySem.W.method_cls I.kIn M.sp (PySem.W.cls_value I.kIn M.rd M.fd M.hd ?_)
 have I0:=I.tok (s.toks+1)
 refine PySem.W.callWith_K (first:=[]) (h₀:=X.base) I.ok.mod.kin M.kp (thn (ha pos pins _ σ H _ I0 h) fun us s2 ⟨vs,H2,I2,r,q2⟩=>⟨I2.kIn,?_⟩) he hpl
 exact qo2 (us:=us) (vs:=vs) F hr hb hd hx I2 r q2
end
section
variable {prog:Program} {w:World} {A:Around} {E:Value→Shared→Prop} {s:Shared} {K:PySem.W.Frag}
theorem qu5 (K:PySem.W.Frag):PySem.W.findCls K (.type "ValueError") (.type "type") "__init__"=some (.val (.builtin "ValueError.__init__")):=by rfl
theorem qxt {expr:Bool} {Q:Value→Shared→Prop} (X:K.In s.heap) (h:Q (.builtin "ValueError.__init__") { s with toks:=s.toks+1 }):wpAny (model prog w) A (getAttr (.type "ValueError") "__init__" expr) Q E s:=by
 have a1:opaqueClassAbove (.type "ValueError")=pure none:=by unfold opaqueClassAbove;dsimp only;rw[show Manifest.isStub "ValueError"=false by decide +kernel];rfl
 have a2:PySem.W.Looks (model prog w) s.heap (typeOf (.type "ValueError")) (.type "type"):=PySem.W.Looks.of_pure (PySem.W.kitMeta_of (by decide +kernel))
 refine PySem.W.cls_open X (PySem.W.Looks.of_pure a1) a2 PySem.W.type_tga (PySem.W.looks_hook X (r:=none) (by rfl)) (by show PySem.W.subIn K _ _=_;rfl) (qu5 K) ?_
 exact wpAny_pure (PySem.W.handed_on rfl h)
theorem qpq (X:K.In s.heap):PySem.W.Looks (model prog w) s.heap (specialOf (.type "ValueError") "__getattribute__") (some (.builtin "type.__getattribute__")) :=
 (PySem.W.Looks.of_pure (PySem.W.kitMeta_of (by decide +kernel))).andThen (PySem.W.looks_findIn X PySem.W.type_tga)
theorem qr1 {pl:Sem Bool} {Q:Value × List Value→Shared→Prop} (X:K.In s.heap) (h:Q (.builtin "ValueError.__init__",[]) { s with toks:=s.toks+1 }):wpAny (model prog w) A (getMethod (.type "ValueError") "__init__" pl) Q E s:=by
 unfold getMethod
 refine wpAny_bind ((qpq X).here ?_)
 dsimp only
 rw[if_pos PySem.W.canon_tga]
 refine wpAny_bind (wpAny_mono (qxt (Q:=fun v=>Q (v,[])) X h) (fun _ _ z=>wpAny_pure z) fun _ _ z=>z)
variable {hp:Heap} {g:Array GenState} {dr:Drawn} {tk:Nat} {os:OsState}
variable {nm qn:Str} {C N:Addr} {bs bm:List Value} {hdct:Bool} {sn:List Str} {sub:List Value} {ab:Bool} {col:Option Bool} {dd:Option Addr} {k0 k1 k2 k3 k5:Option Value}
theorem qu6 {M:Model} {a:Addr} {oe:Obj} {rest:List Value} {Q:Unit→Shared→Prop} (B:Above bm) (hC:hp.get? C=some (qc1 nm qn C N bs bm hdct sn sub ab col dd k0 k1 k2 k3 k5)) (he:hp.get? a=some oe) (hcl:oe.cls=.ref C)
   (k:Q () ⟨hp,g,dr,tk,os⟩):wpAny M A (checkBuiltinCall "ValueError.__init__" ⟨.ref a::rest,[]⟩) Q E ⟨hp,g,dr,tk,os⟩:=by
 have F:=PySem.F.excBase_ValueError
 have c1:(Value.ref C::bm).contains (.type "ValueError")=true:=by rw[List.contains_cons,B.ve,Bool.or_true]
 have st:=F.noStar
 simp only [checkBuiltinCall,F.initKind,F.initSplit,F.initRow]
 repeat (first
   | (with_reducible refine wpAny_loadPart_at he ?_;rw[hcl])
   | with_reducible refine wpAny_loadPart_at hC ?_
   | (with_reducible refine wpAny_isSubtype_exc hC ?_;rw[c1])
   | wp_step)
 refine wpAny_onRaise ?_
 have cs:∀ (u v:String) (n:Nat),Bind.check ⟨.positional,"*","ValueError",.self,[⟨"args",.varPos,false⟩]⟩ u v n []=pure ():=fun u v n=>check_star_args _ _ _ _ _ _
 simp only [List.map_nil]
 rw[cs]
 exact wpAny_pure k
theorem qxu {a:Addr} {oe:Obj} {vs:Array Value} {rest:List Value} {Q:Value→Shared→Prop} (B:Above bm) (hC:hp.get? C=some (qc1 nm qn C N bs bm hdct sn sub ab col dd k0 k1 k2 k3 k5)) (he:hp.get? a=some oe) (hcl:oe.cls=.ref C) (hd:oe.data=.fields vs) (h0:∃ u,vs[0]? =some u) (hz:rest.length≤sizeLine)
   (k:Q .none ⟨(hp.push { cls:=.type "tuple",data:=.seq rest.toArray }).update a (Obj.mapFields (·.setIfInBounds 0 (.ref hp.objs.size))),g,dr,tk,os⟩) :
   wpAny (model prog w) A (call (.builtin "ValueError.__init__") (.ref a::rest)) Q E ⟨hp,g,dr,tk,os⟩:=by
 have F:=PySem.F.excBase_ValueError
 refine wpAny_call (codeAny_call_builtin F.init.plain F.initEntry (qu6 B hC he hcl ?_))
 unfold Builtin.«BaseException.__init__»
 wp_walk
 obtain ⟨u,h0⟩:=h0
 rw[hd]
 refine wpAny_pure ?_
 dsimp only
 rw[h0]
 refine wpAny_pure ?_
 have ne:a ≠ hp.objs.size:=Nat.ne_of_lt (Heap.lt_size he)
 refine wpAny_bind (wpAny_setField (Heap.get?_push_of_some _ he) hd (Array.getElem?_eq_some_iff.mp h0).1 ?_)
 have go:∀ (v:Value) (Q:Unit→Shared→Prop) (E:Value→Shared→Prop) (s:Shared),Q () s→wpAny (model prog w) A.in1 (match v with | .ref a=>letGo [v] | _=>pure ()) Q E s:=fun v Q E s h=>by
   cases v <;> first | exact wpAny_pure h | exact wpAny_letGo h
 refine go u _ _ _ ?_
 exact wpAny_pure k
end
structure qdc (K:PySem.W.Frag) (C:Addr) (name:Str):Prop where
 sa:PySem.W.findIn K (.ref C) "__setattr__"=some (some (.builtin "object.__setattr__"))
 cd:∃ cd,PySem.W.clsIn K C=some cd∧cd.hasDict=true∧cd.mro.isEmpty=false∧cd.mro.contains (.type "object")=true∧∀ self:Value,refuseLoop self "__setattr__" cd.mro=pure ()
 tk:PySem.W.takerIn K C name=some none
section
variable {prog:Program} {w:World} {A:Around} {E:Value→Shared→Prop} {K:PySem.W.Frag} {C x:Addr} {hp:Heap} {g:Array GenState} {dr:Drawn} {t:Nat} {os:OsState} {o:Obj} {name:Str} {v:Value}
theorem qxv {R:Result→Shared→Prop} {s:Shared} {tk:Tok} (X:K.In s.heap) (S:qdc K C name) (I:PySem.W.InstAt s.heap x o C none)
   (k:∀ b,wpAny (model prog w) A.in1 (Builtin.ObjectAttr.storeInOwnDict (.ref x) (.ref C) (.str name tk) name v b) (fun fin s'=>match fin with | .done f=>R (.ok f) s' | .again c'=>c'.quiet=true∧codeAny (model prog w) A c' R s') (fun e s'=>R (.error e) s') s) :
   codeAny (model prog w) A (.call (.builtin "object.__setattr__") ⟨[.ref x,.str name tk,v],[]⟩) R s:=by
 have SF:=PySem.F.store_ValueError
 obtain ⟨cd,hcd,h1,h2,h3,h4⟩:=S.cd
 have sub:PySem.W.Looks (model prog w) s.heap (isInstance (.ref x) (.type "object")) true:=I.type.andThen (PySem.W.looks_mroIn X (by unfold PySem.W.mroIn;rw[hcd,Option.bind_some,if_neg (by rw[h2];decide),h3]))
 refine codeAny_call_builtin SF.slot.plain SF.entry (@PySem.W.check_slot (model prog w) _ _ s "object.__setattr__" "object" "__setattr__" (.ref x) [.str name tk,v] [] _ SF.kind SF.split sub (SF.args (.ref x) (.str name tk) v) ?_)
 obtain ⟨attr,ha,hr⟩:=Option.bind_eq_some_iff.mp S.tk
 have hm:PySem.W.Looks (model prog w) s.heap (mroOf (.ref C)) cd.mro:=(PySem.W.looks_clsIn X hcd).andThen .now
 have L3:PySem.W.Looks (model prog w) s.heap (Builtin.ObjectAttr.storeTaker? attr) none:=by
   cases attr with
   | none=>exact .now
   | some a =>
     obtain ⟨b,hb,hr⟩:=Option.map_eq_some_iff.mp hr
     cases b with
     | true=>cases hr
     | false=>exact(PySem.W.looks_takesIn X hb).andThen .now
 rw[PySem.W.osa_eq,refuse_eq]
 refine wpAny_bind (wpAny_bind (I.type.here (wpAny_bind (hm.here ?_))))
 rw[h4]
 refine wpAny_pure (wpAny_bind (I.type.here (wpAny_bind ((PySem.W.looks_findIn X ha).here (wpAny_bind (L3.here ?_))))))
 exact k _
open Builtin.ObjectAttr in
theorem qxw {Q:PySem.Fin→Shared→Prop} {tk:Tok} {b:Bool} (X:K.In hp) (S:qdc K C name) (hx:hp.get? x=some o) (hc:o.cls=.ref C) (hn:∀ c,o.data ≠ .cls c) (hd:o.dict=none)
   (k:∀ h' tk' d,hp.get? d=none→h'.get? x=some { o with dict:=some d }→(∀ b u,b ≠ x→hp.get? b=some u→h'.get? b=some u)→Q (.done (.ret .none)) ⟨h',g,dr,tk',os⟩) :
   wpAny (model prog w) A (storeInOwnDict (.ref x) (.ref C) (.str name tk) name v b) Q E ⟨hp,g,dr,t,os⟩:=by
 obtain ⟨cd,hcd,h1,h2,h3,h4⟩:=S.cd
 have L:=PySem.W.looks_clsIn (M:=model prog w) X hcd
 unfold storeInOwnDict
 refine wpAny_bind (wpAny_pure (wpAny_bind ?_))
 unfold ownDictForStores instanceDict
 refine wpAny_bind (wpAny_loadPart hx ?_)
 rw[hc]
 refine wpAny_bind (L.here ?_)
 rw[h1,hd]
 simp only [Bool.not_true,Bool.false_eq_true,if_false,Bool.false_or,typeHasDict]
 have at1:(hp.push { cls:=.type "dict",data:=.dict #[] }).get? x=some o:=Heap.get?_push_of_some _ hx
 have ne:x ≠ hp.objs.size:=Nat.ne_of_lt (Heap.lt_size hx)
 have fr:=(Heap.get?_some_iff.mp hx).2
 refine wpAny_bind (wpAny_alloc' ?_)
 refine wpAny_bind (wpAny_update' at1 ?_)
 refine wpAny_pure ?_
 have n0:((hp.push { cls:=.type "dict",data:=.dict #[] }).update x fun o=>{ o with dict:=some hp.objs.size }).Ns hp.objs.size (fun _=>none):=by
   refine⟨{ cls:=.type "dict",data:=.dict #[] },#[],_,?_,rfl,fun e he=>absurd he (by simp),fun _=>rfl⟩
   rw[Heap.get?_update_ne _ _ _ _ (Ne.symm ne)]
   exact Heap.get?_push_size hp rfl
 have x0:((hp.push { cls:=.type "dict",data:=.dict #[] }).update x fun o=>{ o with dict:=some hp.objs.size }).get? x=some { o with dict:=some hp.objs.size }:=by
   refine Heap.get?_update_self _ at1 ?_
   obtain ⟨oc,od,odt,osl⟩:=o
   cases odt <;> first | rfl | exact fr
 have k0:∀ b u,b ≠ x→hp.get? b=some u→((hp.push { cls:=.type "dict",data:=.dict #[] }).update x fun o=>{ o with dict:=some hp.objs.size }).get? b=some u:=fun b u hb q=>by
   rw[Heap.get?_update_ne _ _ _ _ hb]
   exact Heap.get?_push_of_some _ q
 generalize (hp.push { cls:=.type "dict",data:=.dict #[] }).update x (fun o=>{ o with dict:=some hp.objs.size })=h2' at *
 show wpAny _ _ (storeInDict hp.objs.size (.str name tk) name v) _ _ _
 unfold storeInDict newKeyGuard
 refine wpAny_bind (wpAny_pure (wpAny_bind (wpAny_nsSet1 (Heap.Ns1.of_empty n0) fun h3 hn3 hs3=> ?_)))
 obtain ⟨oD,esD,epD,hoD,hdD,hcD⟩:=hn3.count (Within.cons name v Within.nil)
 refine wpAny_bind (wpAny_lookBehind hoD (by rw[hdD];exact pastItsLine_dict (Nat.le_trans hcD (by rw[List.length_cons,List.length_nil,sizeLine_eq];omega))) ?_)
 wp_walk
 refine k h3 _ hp.objs.size (Heap.get?_none_of_le (Nat.le_refl _)) ((hs3.2 x ne).trans x0) fun b u hb q=> ?_
 exact(hs3.2 b (Nat.ne_of_lt (Heap.lt_size q))).trans (k0 b u hb q)
theorem qxx {Q:Unit→Shared→Prop} (X:K.In hp) (S:qdc K C name) (hx:hp.get? x=some o) (hc:o.cls=.ref C) (hn:∀ c,o.data ≠ .cls c) (hd:o.dict=none)
   (k:∀ h' tk' d,hp.get? d=none→h'.get? x=some { o with dict:=some d }→(∀ b u,b ≠ x→hp.get? b=some u→h'.get? b=some u)→Q () ⟨h',g,dr,tk',os⟩) :
   wpAny (model prog w) A (setAttr (.ref x) name v) Q E ⟨hp,g,dr,t,os⟩:=by
 have I:PySem.W.InstAt hp x o C none:=⟨hx,hc,by unfold PySem.W.notCls;cases q:o.data <;> first | rfl | exact absurd q (hn _),by rw[hd];trivial⟩
 refine PySem.W.set_plain (s:=⟨hp,g,dr,t,os⟩) X I S.sa ?_
 exact qxv (s:=⟨hp,g,dr,t+1,os⟩) X S I fun b=>qxw X S hx hc hn hd fun h' tk' d h1 h2 h3=>k h' tk' d h1 h2 h3
end
theorem q44:bootBuiltins "ValueError"=some (.type "ValueError"):=by decide +kernel
section
variable {X:Cx} {C f:Addr} {p pos apos:Pos} {e o value:Expr} {es:List Expr} {t:TA} {ta tv:TE} {name:Str}
noncomputable def tVe (K:PySem.W.Frag) (t:TA):TE:=fun σ H Q=>t σ H fun vs H1=>∃ a us C f b,vs=.ref a::us∧us.length≤100∧qeq K C f∧H1 a=some (exO C a b)∧Q .non (upd H1 a (exO C a b))
theorem q45 {pl:Sem Bool} (hg:Gl X "ValueError") (hm:X.mg "ValueError"=none) (ha:PA X (e::es) t) (he:starEach (e::es) X.env=(false,eval e X.env)::starEach es X.env) (hpl:(backTo pos (starEach es X.env)).any (·.1)=false)
   (ht:eval (.Call (.Attribute (.Name "ValueError" p) "__init__" apos) (e::es) [] pos) X.env=(do
     let ov ← eval (.Name "ValueError" p) X.env
     standAt apos.atName
     let (f,first) ← holding [ov] (getMethod ov "__init__" pl)
     callWith pos f first (backTo pos (starEach (e::es) X.env)) (backToKw pos (keywordEach [] X.env))):=by rfl) :
   PE X (.Call (.Attribute (.Name "ValueError" p) "__init__" apos) (e::es) [] pos) (tVe X.K t):=by
 intro pins s σ H Q I h
 refine PySem.W.methodCall_KW (pl:=pl) (qfy I hg hm q44 ?_) ht
 refine qr1 I.kIn ?_
 have I0:=I.tok (s.toks+1)
 refine PyProof.Rows.callWith_builtin1 (thn (ha pos pins _ σ H _ I0 h) fun us s2 ⟨vs,H2,I2,r,a,ws,C,f,b,ev,hl,M,hH,q⟩=> ?_) he hpl
 subst ev
 obtain ⟨u1,us,rfl,r1,r2⟩:∃ u1 us',us=u1::us'∧RelV (.ref a) u1∧Vals ws us':=by cases r with | cons r1 r2=>exact⟨_,_,rfl,r1,r2⟩
 obtain rfl:u1=Value.ref a:=r1
 · skip
   obtain ⟨nm,qn,N,bs,bm,hdct,sn,sub,ab,col,dd,k0,k1,k2,k3,k5,mN,hC,hB,hN,hI⟩:=M.obj _ I2.kIn
   obtain ⟨ob,vs,t0,h1,h2,h3,h4,h5,h6,h7⟩:=ql5 (I2.hok _ _ hH)
   obtain ⟨hp,g,d,tk,os⟩:=s2
   have hz:us.length≤sizeLine:=by rw[← r2.length];exact Nat.le_trans hl (by rw[sizeLine_eq];decide)
   refine qxu hB hC h1 h2 h3 ⟨_,h5⟩ hz ?_
   have ne:a ≠ hp.objs.size:=Nat.ne_of_lt (Heap.lt_size h1)
   have at1:(hp.push { cls:=.type "tuple",data:=.seq us.toArray }).get? a=some ob:=Heap.get?_push_of_some _ h1
   have hd3:=Obj.data_mapFields h3 (·.setIfInBounds 0 (Value.ref hp.objs.size))
   have at2:=Heap.get?_update_self (Obj.mapFields (·.setIfInBounds 0 (Value.ref hp.objs.size))) at1 (Obj.isFreed_of_fields hd3)
   refine⟨.non,_,I2.write (t':=tk) (e:=a) (o:=exO C a b) (by rw[hH];trivial) (.inl rfl) (fun c u hc q=> ?_) ⟨_,at2⟩ ?_,rfl,q⟩
   · rw[Heap.get?_update_other _ _ (Ne.symm hc)]
     exact Heap.get?_push_of_some _ q
   · refine qpp at2 ((Obj.cls_mapFields _ _).trans h2) hd3 (by rw[Array.size_setIfInBounds];exact h4) (t:=hp.objs.size) ?_ ?_ ?_
     · rw[Array.getElem?_setIfInBounds_self_of_lt (by omega)]
     · rw[Array.getElem?_setIfInBounds_ne (by decide)];exact h6
     · intro hb
       have:=h7 hb
       obtain ⟨oc,od,odt,osl⟩:=ob
       simp only at h3
       subst h3
       exact this
noncomputable def q46 (K:PySem.W.Frag) (name:Str) (ta tv:TE):TS:=fun D σ H=>tv σ H fun y H1=>ta σ H1 fun x H2=>∃ a C,x=.ref a∧H2 a=some (exO C a true)∧qdc K C name∧D.nx σ (upd H2 a (exO C a false))
theorem qxy (ha:PE X o ta) (hv:PE X value tv) (hs:swapsWith value (some (.Attribute o name apos)) pos.line X.env=pure false):PS X (.Assign [.Attribute o name apos] value pos) (q46 X.K name ta tv):=by
 intro pins s σ H D I h
 refine plainObj_wpAny_Assign_Attribute (thn (hv pins s σ H _ I h) fun u s1 ⟨y,H1,I1,ry,q⟩=>thn (ha pins s1 σ H1 _ I1 q) fun ov s2 ⟨x,H2,I2,rx,a,C,ex,hH,S,q2⟩=> ?_) hs
 subst ex
 obtain rfl:ov=Value.ref a:=rx
 obtain ⟨ob,vs,t0,h1,h2,h3,h4,h5,h6,h7⟩:=ql5 (I2.hok _ _ hH)
 obtain ⟨hp,g,d,tk,os⟩:=s2
 refine qxx I2.kIn S h1 h2 (fun c z=>by rw[h3]at z;cases z) (h7 rfl) fun h' tk' d' k1 k2 k3=> ?_
 refine⟨σ,_,I2.write (t':=tk') (e:=a) (o:=exO C a false) (by rw[hH];trivial) (.inl rfl) (fun c u hc q=>k3 c u hc q) ⟨_,k2⟩ ?_,q2⟩
 exact qpp k2 h2 h3 h4 h5 h6 fun z=>nomatch z
end
inductive qgz (w:World):List DictEntry→List (Str × Addr)→Prop where
 | nil:qgz w [] []
 | cons {x:Str} {t:Tok} {b:Addr} {es:List DictEntry} {tab:List (Str × Addr)}:qgz w es tab→qgz w (⟨PyData.keyHash w.params x,.str x t,.ref b⟩::es) ((x,b)::tab)
theorem qgz.pairs {P:Program} {w:World}:∀ {es:List DictEntry} {tab:List (Str × Addr)},qgz w es tab→Pairs (qx P w) es (tab.map fun p=>(Sum.inr p.1,Value.ref p.2))
 | _,_,.nil=>.nil
 | _,_,.cons (x:=x) (t:=t) h=>.cons (qdl P w x t) rfl h.pairs
theorem qgz.keys {P:Program} {w:World}:∀ {es:List DictEntry} {tab:List (Str × Addr)},qgz w es tab→∀ e ∈ es,∃ k,(qx P w).is k e.key=true∧e.hash=(qx P w).hash k
 | _,_,.nil,e,h=>by simp at h
 | _,_,.cons (x:=x) (t:=t) h,e,he=>by
   rcases List.mem_cons.mp he with rfl | he
   · exact⟨Sum.inr x,qdl P w x t,rfl⟩
   · exact h.keys e he
theorem qxz {P:Program} {w:World} {K:PySem.W.Frag} {a:Addr} {tab:List (Str × Addr)} {es:Array DictEntry} {ep:Nat} (hs:(a==sysModules)=false) (hl:K.lookup a=some ⟨.type "dict",none,.dict es ep,#[]⟩) (h:qgz w es.toList tab) (nd:(tab.map (·.1)).Nodup):qrw P w K a tab where
 sys:=hs
 at_:=fun hp X=>⟨_,es,ep,X _ _ hl,⟨rfl,rfl,rfl⟩,rfl,fun e he=>h.keys e (Array.mem_toList_iff.mpr he),h.pairs,by
   rw[List.map_map]
   have:((fun kv:Key × Value=>kv.1) ∘ fun p:Str × Addr=>((Sum.inr p.1:Key),Value.ref p.2))=(fun x:Str=>(Sum.inr x:Key)) ∘ fun p:Str × Addr=>p.1:=rfl
   rw[this,← List.map_map]
   exact List.Pairwise.map _ (fun a b hab e=>hab (Sum.inr.inj e)) nd⟩
theorem qb8 {K:PySem.W.Frag} {a:Addr} {ks:List Str} {its:Array Value} {n:Nat} {d:Option Addr} {sl:Array (Option Value)} (hl:K.lookup a=some ⟨.type "tuple",d,.seq its n,sl⟩) (hz:its.size≤sizeLine) (hv:Vals (ks.map V.str) its.toList):que K a ks:=⟨_,its,n,hl,rfl,rfl,hz,hv⟩
end L2
namespace T3
open PySem PySem.Spec PyProof.Rows L2
noncomputable def q47 (o:Expr) (m:Str) (apos:Pos) (es:List Expr) (pos:Pos):Prop:=∀ env:PySem.Env,∃ pl:Sem Bool,eval (.Call (.Attribute o m apos) es [] pos) env=(do
 let ov ← eval o env
 standAt apos.atName
 let (f,first) ← holding [ov] (getMethod ov m pl)
 callWith pos f first (backTo pos (starEach es env)) (backToKw pos (keywordEach [] env)))
noncomputable def spO (K:PySem.W.Frag):Sp:=fun vs H Q _=>∃ a C f y z,vs=[.ref a,.str y,.str z]∧H a=some (exO C a true)∧qeq K C f∧qdc K C "word"∧Q .non (upd H a (exO C a false))
noncomputable def spB (C:Addr):Sp:=fun vs H Q _=>∃ a z,vs=[.ref a,.str z]∧H a=some (exO C a true)∧Q .non (upd H a (exO C a false))
section
variable {P:Program} {w:World} {K:PySem.W.Frag} {mg:Str→Option Value} {base:Heap} {st:Stmt} {f:Addr} {N:List Str} {qual nm:Str} {dV kV doc pm cdv ct oc:Value} {an od:Option Addr} {osl:Array (Option Value)} {k:Nat} {fns:List (Str × Nat × Nat)} {bs:List Str} {md:Md}
variable {p1 p2 p3 p4 p5 p6 p7 p8 p9 p10:Pos}
theorem qc2 {X:Cx} {s:Sx} {i:Nat} {x:Str} {pos:Pos} (hN:X.N=s.N) (hsc:X.env.scope=s.sc) (h:qa9 s i x=true):PE X (.Name x pos) (qhy i):=by
 unfold qa9 at h
 simp only [Bool.and_eq_true,Bool.not_eq_true',decide_eq_true_eq]at h
 exact qhz (by rw[hN];exact h.1.1.1) (by rw[hsc];exact qlq h.1.1.2) h.1.2 h.2
theorem qe4 {X:Cx} {s:Sx} {x:Str} (hsc:X.env.scope=s.sc) (h:qdz s x=true):Gl X x∧(x==("__debug__":Str))=false:=by
 unfold qdz at h
 simp only [Bool.and_eq_true,Bool.not_eq_true',decide_eq_true_eq,beq_iff_eq]at h
 exact⟨by unfold Gl Env.kindOf;rw[hsc];exact h.1.1,h.1.2⟩
theorem qu7 (lk:K.lookup f=some ⟨oc,od,.func (PySem.W.fnOf nm qual (qau st) (qq st) (qb st) dV kV doc pm an cdv ct),osl⟩) (hcd:PySem.W.codeIn K cdv qual=true) (S:qan N ["self","word","why"] (qb st))
   (hst:qq st=[.Expr (.Call (.Attribute (.Name "ValueError" p1) "__init__" p2) [.Name "self" p3,.Name "why" p4] [] p5) p6,.Assign [.Attribute (.Name "self" p7) "word" p8] (.Name "word" p9) p10])
   (h0:qa9 ⟨N,qb st,fun _=>true,fns,k,bs,md⟩ 0 "self"=true) (h1:qa9 ⟨N,qb st,fun _=>true,fns,k,bs,md⟩ 1 "word"=true) (h2:qa9 ⟨N,qb st,fun _=>true,fns,k,bs,md⟩ 2 "why"=true) (hg:qdz ⟨N,qb st,fun _=>true,fns,k,bs,md⟩ "ValueError"=true) (hm:mg "ValueError"=none) (hL:q47 (.Name "ValueError" p1) "__init__" p2 [.Name "self" p3,.Name "why" p4] p5) :
   qay P w K mg base CX0 (k+1) f (PySem.W.fnOf nm qual (qau st) (qq st) (qb st) dV kV doc pm an cdv ct) ["self","word","why"] (spO K):=by
 refine qqb lk hcd S (fun vs H Q E h=>by obtain ⟨a,C,f,y,z,rfl,_⟩:=h;rfl) fun A outer s H vs Q E hr h=> ?_
 obtain ⟨a,C,fC,y,z,rfl,hH,M,ST,q⟩:=h
 have v0:PE (qa8 CX0 P w K mg base N qual (qb st) f cdv A outer s H E) (.Name "self" p3) (qhy 0):=qc2 rfl rfl h0
 have v0':PE (qa8 CX0 P w K mg base N qual (qb st) f cdv A outer s H E) (.Name "self" p7) (qhy 0):=qc2 rfl rfl h0
 have v1:PE (qa8 CX0 P w K mg base N qual (qb st) f cdv A outer s H E) (.Name "word" p9) (qhy 1):=qc2 rfl rfl h1
 have v2:PE (qa8 CX0 P w K mg base N qual (qb st) f cdv A outer s H E) (.Name "why" p4) (qhy 2):=qc2 rfl rfl h2
 obtain ⟨g1,g2⟩:=qe4 (X:=qa8 CX0 P w K mg base N qual (qb st) f cdv A outer s H E) rfl hg
 obtain ⟨pl,ht⟩:=hL (qa8 CX0 P w K mg base N qual (qb st) f cdv A outer s H E).env
 have c1:=q45 (pos:=p5) (p:=p1) (apos:=p2) (pl:=pl) g1 hm (qah v0 (qah v2 qc6 rfl) rfl) rfl rfl ht
 have c2:=qxy (name:="word") (apos:=p8) (pos:=p10) v0' v1 rfl
 refine⟨_,by rw[hst];exact qdm (qk0 (pos:=p6) c1) (qe6 c2),?_⟩
 refine⟨.ref a,rfl,.str z,rfl,a,[.str z],C,fC,true,rfl,by show 1≤100;decide,M,hH,?_⟩
 refine⟨.str y,rfl,.ref a,rfl,a,C,rfl,qj,ST,?_⟩
 show Q .non (upd (upd H a (exO C a true)) a (exO C a false))
 rw[qp5]
 exact q
theorem qr2 {fO C fC:Addr} {fdO:FuncData} {word:Str} {kO tkC:Nat} (lk:K.lookup f=some ⟨oc,od,.func (PySem.W.fnOf nm qual (qau st) (qq st) (qb st) dV kV doc pm an cdv ct),osl⟩) (hcd:PySem.W.codeIn K cdv qual=true) (S:qan N ["self","why"] (qb st))
   (hst:qq st=[.Expr (.Call (.Attribute (.Name "OutError" p1) "__init__" p2) [.Name "self" p3,.Constant (.str word) tkC p7,.Name "why" p4] [] p5) p6])
   (h0:qa9 ⟨N,qb st,fun _=>true,fns,k,bs,md⟩ 0 "self"=true) (h1:qa9 ⟨N,qb st,fun _=>true,fns,k,bs,md⟩ 1 "why"=true) (hg:qdz ⟨N,qb st,fun _=>true,fns,k,bs,md⟩ "OutError"=true)
   {O:Addr} (hm:mg "OutError"=some (.ref O)) (MF:qu3 K O "__init__" fO) (FO:qay P w K mg base CX0 kO fO fdO ["self","word","why"] (spO K)) (hk:kO≤k) (hb:Binds K fdO ["self","word","why"] [])
   (M:qeq K C fC) (ST:qdc K C "word") (hL:q47 (.Name "OutError" p1) "__init__" p2 [.Name "self" p3,.Constant (.str word) tkC p7,.Name "why" p4] p5) :
   qay P w K mg base CX0 (k+1) f (PySem.W.fnOf nm qual (qau st) (qq st) (qb st) dV kV doc pm an cdv ct) ["self","why"] (spB C):=by
 refine qqb lk hcd S (fun vs H Q E h=>by obtain ⟨a,z,rfl,_⟩:=h;rfl) fun A outer s H vs Q E hr h=> ?_
 obtain ⟨a,z,rfl,hH,q⟩:=h
 have v0:PE (qa8 CX0 P w K mg base N qual (qb st) f cdv A outer s H E) (.Name "self" p3) (qhy 0):=qc2 rfl rfl h0
 have v1:PE (qa8 CX0 P w K mg base N qual (qb st) f cdv A outer s H E) (.Name "why" p4) (qhy 1):=qc2 rfl rfl h1
 obtain ⟨g1,g2⟩:=qe4 (X:=qa8 CX0 P w K mg base N qual (qb st) f cdv A outer s H E) rfl hg
 obtain ⟨pl,ht⟩:=hL (qa8 CX0 P w K mg base N qual (qb st) f cdv A outer s H E).env
 have c1:=qu4 (X:=qa8 CX0 P w K mg base N qual (qb st) f cdv A outer s H E) (E:=E0) (pos:=p5) (p:=p1) (apos:=p2) (pl:=pl) MF FO (hr.mono hk) g1 hm hb .nil (fun _ _ _ _ _ _ _ h=>False.elim h) (qah v0 (qah qfx (qah v1 qc6 rfl) rfl) rfl) g2 rfl rfl ht
 refine⟨_,by rw[hst];exact qe6 (qk0 (pos:=p6) c1),?_⟩
 refine⟨.ref a,rfl,.str z,rfl,a,C,fC,word,z,rfl,hH,M,ST,q⟩
end
end T3
namespace L2
open PySem PySem.Spec PyProof.Rows
section
variable {prog:Program} {w:World} {A:Around} {E:Value→Shared→Prop} {s:Shared} {env:PySem.Env}
variable {C:Addr}
theorem qpr {x:Sem Value} {Q:Flow→Shared→Prop} (hh:A.handled=none)
   (h:wpAny (model prog w) A x (fun v s₁=>∃ nm qn N bs bm hdct sn sub ab col dd k0 k1 k2 k3 k5 a od vs sl,v=.ref a∧Above bm∧s₁.heap.get? C=some (qc1 nm qn C N bs bm hdct sn sub ab col dd k0 k1 k2 k3 k5)∧s₁.heap.get? a=some ⟨.ref C,od,.fields vs,sl⟩∧vs[1]? =some .none∧E (.ref a) s₁) E s) :
   wpAny (model prog w) A (raiseStmt env (some x) none) Q E s:=by
 unfold raiseStmt
 refine wpAny_bind (wpAny_mono h (fun v s₁ h₁=> ?_) fun _ _ y=>y)
 obtain ⟨nm,qn,N,bs,bm,hdct,sn,sub,ab,col,dd,k0,k1,k2,k3,k5,a,od,vs,sl,rfl,B,hC,he,hv,hE⟩:=h₁
 have c1:(Value.ref C::bm).contains (.type "BaseException")=true:=by rw[List.contains_cons,B.be,Bool.or_true]
 obtain ⟨hp,g,d,tk,os⟩:=s₁
 repeat (first
   | with_reducible refine wpAny_loadPart_at he ?_
   | with_reducible refine wpAny_loadPart_at hC ?_
   | (with_reducible refine wpAny_isSubtype_exc hC ?_;rw[c1])
   | wp_step)
 rw[hv]
 refine wpAny_pure ?_
 rw[if_neg (by decide)]
 exact wpAny_pure (wpAny_raiseNew_none hh hE)
theorem qps {ex:Expr} {pos:Pos} {Q:Flow→Shared→Prop} (hh:A.handled=none)
   (h:wpAny (model prog w) A (eval ex env) (fun v s₁=>∃ nm qn N bs bm hdct sn sub ab col dd k0 k1 k2 k3 k5 a od vs sl,v=.ref a∧Above bm∧s₁.heap.get? C=some (qc1 nm qn C N bs bm hdct sn sub ab col dd k0 k1 k2 k3 k5)∧s₁.heap.get? a=some ⟨.ref C,od,.fields vs,sl⟩∧vs[1]? =some .none∧E (.ref a) s₁) E s) :
   wpAny (model prog w) A (exec (.Raise (some ex) none pos) env) Q E s:=by
 rw[arm_exec_Raise]
 simp only [evalOpt,Option.map]
 refine wpAny_bind (wpAny_standAt (qpr (C:=C) hh ?_))
 exact wpAny_bind (wpAny_mono h (fun v s₁ q=>wpAny_bind (wpAny_standAt (wpAny_pure q))) fun _ _ y=>y)
end
section
variable {X:Cx} {pins:List (Addr × Obj)} {σ:St} {H:Hp} {s:Shared} {a:Addr}
noncomputable def gone (H:Hp) (a:Addr):Hp:=fun b=>if b=a then none else H b
theorem ql6 {b:Addr} (h:b ≠ a):gone H a b=H b:=if_neg h
theorem ql7:gone H a a=none:=if_pos rfl
theorem gone_none {b:Addr} (h:H b=none):gone H a b=none:=by unfold gone;split <;> first | rfl | exact h
theorem Inv.drop {φ:Heap→Prop} (I:Inv X pins σ H s) (ha:H a=some (.ext φ)):Inv X pins σ (gone H a) s:=by
 have keep:∀ b u,H b=some u→(∀ ψ,u ≠ .ext ψ)→gone H a b=some u:=fun b u q n=>by
   rw[ql6 (fun e=>by subst e;rw[ha]at q;exact n φ (Option.some.inj q).symm)];exact q
 refine⟨I.ok,I.os,I.bare,⟨I.base.keep,I.base.slot,fun b o q n hx=>gone_none (I.base.free b o q n hx),I.base.there,fun b xs q=>keep _ _ (I.base.tups b xs q) (by intro ψ z;cases z),fun b o u q=>keep _ _ (I.base.frzs b o u q) (by intro ψ z;cases z),fun b ps q=> ?_⟩,I.loc,I.cell,gone_none I.free,fun x c q=>gone_none (I.freeC x c q),fun p hp=> ?_,fun b u q=> ?_,I.len⟩
 · obtain ⟨more,q'⟩:=I.base.tbls b ps q
   exact⟨more,keep _ _ q' (by intro ψ z;cases z)⟩
 · obtain ⟨h1,h2,h3⟩:=I.pin p hp
   exact⟨h1,gone_none h2,h3⟩
 · have hb:b ≠ a:=fun e=>by subst e;rw[ql7]at q;cases q
   rw[ql6 hb]at q
   exact(I.hok b u q).stay (fun c v _ q=>q) (fun c q=>keep _ _ q (by intro ψ z;cases z)) fun c xs q=>keep _ _ q (by intro ψ z;cases z)
end
noncomputable def qpt (X:Cx) (C:Addr) (W:XK):Prop:=∀ (pins:List (Addr × Obj)) (σ:St) (H:Hp) (s:Shared) (a:Addr) (b:Bool),Inv X pins σ H s→H a=some (exO C a b)→X.s₀.heap.get? a=none→W (.ref C) none (gone H a)→X.xe (.ref a) s
section
variable {P:Program} {w:World} {K:PySem.W.Frag} {mg:Str→Option Value} {base:Heap} {N:List Str} {qual:Str} {scope:Scope} {f C:Addr} {cd:Value} {A:Around} {outer:List Env} {s₀:Shared} {H₀:Hp} {E:XK}
theorem qkt:qpt (qa8 (CXe P w) P w K mg base N qual scope f cd A outer s₀ H₀ E) C E:=by
 intro pins σ H s a b I hH h0 hE
 obtain ⟨o,vs,t,h1,h2,h3,h4,h5,h6,h7⟩:=ql5 (I.hok _ _ hH)
 have I':=I.drop hH
 show wpAny (model P w) (A.deeper (envOfC qual scope s₀.heap.objs.size f cd)) (leaving (envOfC qual scope s₀.heap.objs.size f cd) (.ref a)) _ _ _
 refine wpAny_leaving_firstW (base:=PySem.W.hideAll s.heap (frs (envOfC qual scope s₀.heap.objs.size f cd::outer)++[a])) (a0:=.ref t) I.ok.frames (PySem.W.funFrames_hide I'.stack fun env hm a hf=> ?_) rfl h1 (fun b o q=>PySem.W.of_hideAll _ q) (PySem.W.hideAll_none _ (by simp)) h3 h6 h5 fun h'' hL=> ?_
 · exact List.mem_append_left _ (List.mem_filterMap.mpr ⟨env,hm,hf⟩)
 · rw[h2]at hL
   exact qxr (s:=s) I' h0 ql7 (ch:=[]) (fun b hb=>by simp at hb) hL hE
end
section
variable {X:Cx} {CX:CXT} {k:Nat} {f C:Addr} {fd:FuncData} {ps:List Str} {sp:Sp} {dvs:List V} {ds:List Value} {E W:XK} {x:Str} {p cpos pos:Pos} {e:Expr} {es:List Expr} {t:TA}
noncomputable def q16 (h₀:Heap) (C:Addr) (sp:Sp) (dvs:List V) (E W:XK) (t:TA):TS:=fun _ σ H=>q43 h₀ C sp dvs E t σ H fun v H2=>∃ a b,v=.ref a∧H2 a=some (exO C a b)∧h₀.get? a=none∧W (.ref C) none (gone H2 a)
theorem qr3 (hw:qpt X C W) (hc:X.calm=true) (M:qeq X.K C f) (F:qay X.prog X.w X.K X.mg X.base CX k f fd ps sp) (hr:qaw (k+1) X.A) (hg:Gl X x) (hm:X.mg x=some (.ref C)) (hb:Binds X.K fd ps ds) (hd:Vals dvs ds) (hx:Passes CX X E)
   (ha:PA X (e::es) t) (hdb:(x==("__debug__":Str))=false) (he:starEach (e::es) X.env=(false,eval e X.env)::starEach es X.env) (hpl:(backTo cpos (starEach es X.env)).any (·.1)=false) (hex:X.ex=[]) :
   PS X (.Raise (some (.Call (.Name x p) (e::es) [] cpos)) none pos) (q16 X.s₀.heap C sp dvs E W t):=by
 intro pins s σ H D I h
 refine qps (C:=C) (I.ok.hd hc) ?_
 refine wpAny_mono (q15 M F hr hg hm hb hd hx ha hdb he hpl hex pins s σ H _ I h) (fun v s₁ q=> ?_) fun _ _ y=>y
 obtain ⟨v',H2,I2,rv,a,b,rfl,hH,h0,hW⟩:=q
 obtain rfl:v=Value.ref a:=rv
 obtain ⟨nm,qn,N,bs,bm,hdct,sn,sub,ab,col,dd,k0,k1,k2,k3,k5,mN,hC,hB,_,_⟩:=M.obj _ I2.kIn
 obtain ⟨o,vs,t0,h1,h2,h3,h4,h5,h6,h7⟩:=ql5 (I2.hok _ _ hH)
 obtain ⟨oc,od,odt,osl⟩:=o
 simp only at h2 h3
 subst h2 h3
 exact⟨nm,qn,N,bs,bm,hdct,sn,sub,ab,col,dd,k0,k1,k2,k3,k5,a,od,vs,osl,rfl,hB,hC,h1,h6,hw pins σ H2 s₁ a b I2 hH h0 hW⟩
end
open PySem PySem.Spec PyProof.Rows PySem.W PySem.Calls PySem.Builtin PySem.Builtin.ObjectAttr PySem.Builtin.Getset_descriptor
structure qiu (K:PySem.W.Frag) (C:Addr):Prop where
 ga:PySem.W.findIn K (.ref C) "__getattribute__"=some (some (.builtin "BaseException.__getattribute__"))
 gt:PySem.W.findIn K (.ref C) "__getattr__"=some none
 cl:PySem.W.findIn K (.ref C) "__class__"=some (some (.builtin "object.__class__"))
 gs:PySem.W.specialIn K (.builtin "object.__class__") "__get__"=some (some (.builtin "getset_descriptor.__get__"))
 tk:PySem.W.takesIn K (.builtin "object.__class__")=some true
 mo:PySem.W.mroIn K C (.type "object")=some true
 mb:PySem.W.mroIn K C (.type "BaseException")=some true
 is:(PySem.W.clsIn K C).isSome=true
section
variable {prog:Program} {w:World} {A:Around} {E:Value→Shared→Prop} {K:PySem.W.Frag} {C x:Addr} {s:Shared} {o:Obj}
theorem ql8 {M:Model} {h:Heap} (hx:h.get? x=some o) (hc:o.cls=.ref C):Looks M h (typeOf (.ref x)) (.ref C):=hc ▸ (Looks.ld hx).andThen .now
theorem qx0 {R:Result→Shared→Prop} {tp:Value} (X:K.In s.heap) (hx:s.heap.get? x=some o) (hc:o.cls=.ref C) (hm:mroIn K C (.type "object")=some true)
   (h:R (.ok (.ret (.ref C))) s):codeAny (model prog w) A (.call (.builtin "getset_descriptor.__get__") ⟨[.builtin "object.__class__",.ref x,tp],[]⟩) R s:=by
 obtain ⟨hh,g,dr,t,os⟩:=s
 have L0:=ql8 (M:=model prog w) hx hc
 have L1:=looks_mroIn (M:=model prog w) X hm
 refine codeAny_call_builtin KF.slot_gs.plain KF.entry_gs (KF.slot_gs.check _ _ _ _ _ _ _ _ KF.type_class (KF.args_gs _ _ _) ?_)
 unfold Builtin.«getset_descriptor.__get__» descrGet
 rw[dga_obj]
 refine wpAny_bind (wpAny_pure ?_)
 unfold descrGetter descrCheckInstance descrNameAndClass isInstance
 simp only [KF.owner_class]
 repeat lk
 refine⟨Code.quiet_builtin _ (by decide +kernel),codeAny_builtin KF.entry_class ?_⟩
 unfold Builtin.«object.__class__» shownTypeOf
 repeat lk
 exact h
theorem qu8 {M:Model} {h:Heap} (X:K.In h) (S:qiu K C):Looks M h (find (.ref x) (.ref C) "__class__") (.bind (.builtin "getset_descriptor.__get__") (.builtin "object.__class__")):=by
 have L1:=looks_findIn (M:=M) X S.cl
 have L2:Looks M h (getOf (some (.builtin "object.__class__"))) (some (.builtin "getset_descriptor.__get__")):=looks_specialIn X S.gs
 have L3:=looks_takesIn (M:=M) X S.tk
 unfold find
 refine L1.andThen (L2.andThen ?_)
 have L4:Looks M h (dataDescriptor? (some (.builtin "object.__class__")) (some (.builtin "getset_descriptor.__get__"))) (some (.builtin "getset_descriptor.__get__",.builtin "object.__class__")):=by
   unfold dataDescriptor?
   refine L3.andThen ?_
   exact .now
 exact L4.andThen (Looks.tag .now)
theorem q17 {tk:Tok} {R:Result→Shared→Prop} (X:K.In s.heap) (S:qiu K C) (hx:s.heap.get? x=some o) (hc:o.cls=.ref C) (h:R (.ok (.ret (.ref C))) s) :
   codeAny (model prog w) A (.call (.builtin "BaseException.__getattribute__") ⟨[.ref x,.str "__class__" tk],[]⟩) R s:=by
 have SF:=PySem.F.excAttr_ValueError
 have L0:=ql8 (M:=model prog w) hx hc
 have sub:Looks (model prog w) s.heap (isInstance (.ref x) (.type "BaseException")) true:=L0.andThen (looks_mroIn X S.mb)
 refine codeAny_call_builtin SF.ga.plain PySem.F.entry_bexc_ga (@PySem.W.check_slot (model prog w) _ _ s "BaseException.__getattribute__" "BaseException" "__getattribute__" (.ref x) [.str "__class__" tk] [] _ (by decide +kernel) (by decide +kernel) sub (PySem.F.args_bexc_ga (.ref x) (.str "__class__" tk)) ?_)
 unfold Builtin.«object.__getattribute__»
 have L1:=qu8 (M:=model prog w) (x:=x) X S
 refine wpAny_bind (wpAny_pure (wpAny_bind (wpAny_pure (wpAny_bind (L0.here (wpAny_bind (L1.here ?_)))))))
 show wpAny _ _ (holding [.builtin "object.__class__"] (call (.builtin "getset_descriptor.__get__") [.builtin "object.__class__",.ref x,.ref C]) >>= ret) _ _ _
 refine wpAny_bind (wpAny_holding (wpAny_call (qx0 X hx hc S.mo ?_)))
 exact wpAny_pure h
theorem qr4 {Q:Option Value→Shared→Prop} (X:K.In s.heap) (S:qiu K C) (hx:s.heap.get? x=some o) (hc:o.cls=.ref C) (h:Q (some (.ref C)) { s with toks:=s.toks+1 }) :
   wpAny (model prog w) A (getAttr? (.ref x) "__class__") Q E s:=by
 obtain ⟨hh,g,d,t,os⟩:=s
 have L0:=ql8 (M:=model prog w) hx hc
 have L1:=looks_findIn (M:=model prog w) X S.ga
 have L2:=looks_findIn (M:=model prog w) X S.gt
 unfold getAttr? getAttrBy? getAttrBy
 refine wpAny_bind (wpAny_mkText (wpAny_bind (wpAny_attempt (wpAny_holding (wpAny_bind (L0.at (wpAny_bind (L1.at ?_))))))))
 show wpAny _ _ (getAttrByItsOwn _ _ _ _ _ _) _ _ _
 unfold getAttrByItsOwn hookBefore
 refine wpAny_bind (L2.at (wpAny_bind (wpAny_attempt (wpAny_holding ?_))))
 unfold callGetattribute boundAndCalled
 rw[if_neg (by decide)]
 have f3:=PySem.F.excAttr_ValueError.ga.bind (.ref x)
 rw[f3]
 refine wpAny_bind (wpAny_pure ?_)
 refine wpAny_call (q17 (s:=⟨hh,g,d,t+1,os⟩) X S hx hc ?_)
 exact wpAny_pure (wpAny_pure h)
theorem qno (S:qiu K C):KitX K (.ref x) (.ref C) (fun h=>∃ o,h.get? x=some o∧o.cls=.ref C) where
 ty:=fun _ _ _ ⟨o,h1,h2⟩=>ql8 h1 h2
 it:=fun _ _ X _=>by
   obtain ⟨cdD,hcD⟩:=Option.isSome_iff_exists.mp S.is
   unfold clsIn at hcD
   split at hcD
   · rename_i c' d' cd' sl' ho
     intro A' Q' E' s' k q
     unfold isType loadHead
     exact wpAny_bind (wpAny_loadPart (k _ _ (X _ _ ho)) (wpAny_pure q))
   · cases hcD
 ne:=fun h tp dd its n sl X htp=>by
   obtain ⟨cdD,hcD⟩:=Option.isSome_iff_exists.mp S.is
   refine Bool.eq_false_iff.mpr fun q=> ?_
   have e:C=tp:=Value.ref.inj (beq_iff_eq.mp q)
   subst e
   unfold clsIn at hcD
   split at hcD
   · rename_i c' d' cd' sl' ho
     have z:=(X _ _ ho).symm.trans htp
     cases z
   · cases hcD
 ca:=fun X ⟨o,h1,h2⟩ k=>qr4 X S h1 h2 k
end
noncomputable def exA (C e:Addr):HO:=.ext fun h=>∃ o,h.get? e=some o∧o.cls=.ref C
section
variable {P:Program} {w:World} {H:Hp} {h:Heap} {C e:Addr} {o:Obj}
theorem q18 (h1:h.get? e=some o) (h2:o.cls=.ref C):qad P w H h e (exA C e):=⟨⟨o,h1,h2⟩,⟨o,h1⟩,fun a c ⟨o',q1,q2⟩ k=>⟨o',k o' q1,q2⟩⟩
theorem q19 (x:qad P w H h e (exA C e)):∃ o,h.get? e=some o∧o.cls=.ref C:=x.1
end
section
variable {X:Cx} {pins:List (Addr × Obj)} {σ:St} {H:Hp} {s:Shared} {a:Addr}
theorem Inv.adopt {φ:Heap→Prop} (I:Inv X pins σ H s) (hH:H a=none) (ap:(a ∈ X.ex∨X.s₀.heap.get? a=none)∧a ≠ X.env.locals∧(∀ x c,X.env.cells.lookup x=some c→c ≠ a)∧∀ p ∈ X.pn++pins,p.1 ≠ a)
   (new:qad X.prog X.w (upd H a (.ext φ)) s.heap a (.ext φ)):Inv X pins σ (upd H a (.ext φ)) s:=by
 have keep:∀ b u,H b=some u→upd H a (.ext φ) b=some u:=fun b u q=>by
   rw[qg (fun e=>by rw[e,hH]at q;cases q)];exact q
 refine⟨I.ok,I.os,I.bare,⟨I.base.keep,I.base.slot,fun b o q n hx=> ?_,I.base.there,fun b xs q=>keep _ _ (I.base.tups b xs q),fun b o u q=>keep _ _ (I.base.frzs b o u q),fun b ps q=> ?_⟩,I.loc,I.cell,?_,fun x c q=> ?_,fun p hp=> ?_,fun b u q=> ?_,I.len⟩
 · have nb:b ≠ a:=fun e=>by
     subst e
     rcases ap.1 with z | z
     · exact hx z
     · rw[z]at q;cases q
   rw[qg nb];exact I.base.free b o q n hx
 · obtain ⟨more,q'⟩:=I.base.tbls b ps q
   exact⟨more,keep _ _ q'⟩
 · rw[qg (Ne.symm ap.2.1)];exact I.free
 · rw[qg (ap.2.2.1 x c q)];exact I.freeC x c q
 · obtain ⟨h1,h2,h3⟩:=I.pin p hp
   exact⟨h1,by rw[qg (ap.2.2.2 p hp)];exact h2,h3⟩
 · by_cases hb:b=a
   · subst hb
     rw[qj]at q;cases q
     exact new
   · rw[qg hb]at q
     exact(I.hok b u q).stay (fun c v _ q=>q) (fun c q=>keep _ _ q) fun c xs q=>keep _ _ q
theorem qr5 {M:Model} {A:Around} {E:Value→Shared→Prop} {i:Nat} {n:Str} {pos:Pos} {Q:Unit→Shared→Prop} (I:Inv X pins σ H s) (hN:X.N.Nodup) (hi:X.N[i]? =some n) (hl:X.env.scope.names.lookup n=some .local)
   (h:∀ s',Inv X pins (σ.set i none) H s'→Q () s'):wpAny M A (do bindName X.env n .none;unbindBehindTheSuite X.env n pos) Q E s:=by
 obtain ⟨m,hn,hlk⟩:=id I.loc
 have hcls:(X.env.scope.kind==.class || (X.env.scope.kind==.module && X.env.locals != X.env.globals))=false:=by rw[I.ok.kind];rfl
 have hiσ:i < σ.length:=by rw[I.len];exact(List.getElem?_eq_some_iff.mp hi).1
 have cne:=I.cne
 refine wpAny_nameGoes_keeps hl hn hcls fun h' v hn' hs=> ?_
 obtain ⟨oL,_,_,hoL,_⟩:=id hn
 refine h _ ⟨I.ok,I.os,I.bare,⟨fun b o e n hb hx=> ?_,fun b o e n hb hx=> ?_,I.base.free,fun b o e hx=> ?_,I.base.tups,I.base.frzs,I.base.tbls⟩,⟨_,hn',fun j y v' e1 e2 e3=> ?_⟩,fun y c e=> ?_,I.free,I.freeC,fun p hp=> ?_,fun b ob e=> ?_,by simpa using I.len⟩
 · exact(hs.2 b (Nat.ne_of_lt (Nat.lt_of_lt_of_le (Heap.lt_size e) I.ok.above))).trans (I.base.keep b o e n hb hx)
 · obtain ⟨sl,e1⟩:=I.base.slot b o e n hb hx
   exact⟨sl,(hs.2 b (Nat.ne_of_lt (Nat.lt_of_lt_of_le (Heap.lt_size e) I.ok.above))).trans e1⟩
 · obtain ⟨o',e1⟩:=I.base.there b o e hx
   exact⟨o',(hs.2 b (Nat.ne_of_lt (Nat.lt_of_lt_of_le (Heap.lt_size e) I.ok.above))).trans e1⟩
 · by_cases hj:j=i
   · subst hj
     rw[List.getElem?_set_self hiσ]at e2
     cases e2
   · rw[List.getElem?_set_ne (Ne.symm hj)]at e2
     obtain ⟨u',r',q⟩:=hlk j y v' e1 e2 e3
     refine⟨u',r',?_⟩
     rcases q with ⟨k,e⟩ | ⟨k,c,e,z⟩
     · refine .inl ⟨k,?_⟩
       have:y ≠ n:=fun e=>hj (qhw hN e1 (e ▸ hi))
       simp [this,e]
     · exact .inr ⟨k,c,e,z.sameBut hs (cne y c e)⟩
 · obtain ⟨w',z⟩:=I.cell y c e
   exact⟨w',z.sameBut hs (cne y c e)⟩
 · obtain ⟨e,n,ne,nf,d⟩:=I.pin p hp
   exact⟨(hs.2 p.1 ne).trans e,n,ne,nf,d⟩
 · refine(I.hok b ob e).stay (fun c w' hc q=>(hs.2 c ?_).trans q) (fun _ q=>q) fun _ _ q=>q
   rintro rfl
   rcases hc with rfl | hc
   · rw[I.free]at e;cases e
   · rw[I.free]at hc;cases hc
end
noncomputable abbrev Cx.sub (X:Cx) (v:Value):Cx:={ X with A:=X.A.mark (some v),calm:=false,xe:=fun _ _=>False }
section
variable {X:Cx} {pins:List (Addr × Obj)} {σ:St} {H:Hp} {s:Shared} {v:Value}
theorem Inv.sub (I:Inv X pins σ H s) (v:Value):Inv (X.sub v) pins σ H s :=
 ⟨⟨I.ok.mod,I.ok.kind,I.ok.glob,I.ok.blt,I.ok.above,I.ok.inj,I.ok.has,I.ok.cab,fun z=>(nomatch z),I.ok.frames,I.ok.stk,I.ok.exf,I.ok.bs,I.ok.bsz,I.ok.noex,I.ok.exfs,I.ok.funs,I.ok.frf⟩,I.os,I.bare,I.base,I.loc,I.cell,I.free,I.freeC,I.pin,I.hok,I.len⟩
theorem Inv.unsub (ok:X.Ok) (I:Inv (X.sub v) pins σ H s):Inv X pins σ H s:=⟨ok,I.os,I.bare,I.base,I.loc,I.cell,I.free,I.freeC,I.pin,I.hok,I.len⟩
end
noncomputable def q48 (K:PySem.W.Frag):List V→Hp→VK→Prop:=fun xs H Q=>∃ a C v c b,xs=[.ref a,v]∧((∃ D,v=.ref D∧c=.ref D)∨∃ n,v=.ty n∧c=.type n)∧H a=some (exA C a)∧qiu K C∧PySem.W.kitOne K (.ref C) c=some b∧Q (.bl b) H
theorem qu9 {X:Cx}:qbj X (.builtin "isinstance") (q48 X.K):=by
 intro pins s σ H xs us Q I r h
 obtain ⟨a,C,v,c,b,rfl,hv,hH,S,e,q⟩:=h
 cases r with
 | cons r1 r =>
   cases r with
   | cons r2 r =>
     cases r
     obtain rfl:=(show _=Value.ref a from r1)
     obtain ⟨o,h1,h2⟩:=q19 (I.hok _ _ hH)
     rcases hv with ⟨D,rfl,rfl⟩ | ⟨n,rfl,rfl⟩
     · obtain rfl:=(show _=Value.ref D from r2)
       exact PySem.W.kia_one (qno S) I.kIn ⟨o,h1,h2⟩ e (fun z=>nomatch z) fun tk=>⟨.bl b,H,I.tok _,rfl,q⟩
     · obtain rfl:=(show _=Value.type n from r2)
       exact PySem.W.kia_one (qno S) I.kIn ⟨o,h1,h2⟩ e (fun z=>nomatch z) fun tk=>⟨.bl b,H,I.tok _,rfl,q⟩
structure qiv (K:PySem.W.Frag) (C O:Addr):Prop where
 lo:∀ h:Heap,K.In h→∃ nm qn N bs bm hdct sn sub ab col dd k0 k1 k2 k3 k5,h.get? C=some (qc1 nm qn C N bs bm hdct sn sub ab col dd k0 k1 k2 k3 k5)∧(Value.ref C::bm).contains (.ref O)=true
 hi:∀ h:Heap,K.In h→∃ nm qn N bs bm hdct sn sub ab col dd k0 k1 k2 k3 k5,h.get? O=some (qc1 nm qn O N bs bm hdct sn sub ab col dd k0 k1 k2 k3 k5)∧Above bm
theorem qx1 {M:Model} {A:Around} {E:Value→Shared→Prop} {s:Shared} {K:PySem.W.Frag} {C O e:Addr} {oe:Obj} {Q:Bool→Shared→Prop} (X:K.In s.heap) (T:qiv K C O) (he:s.heap.get? e=some oe) (hcls:oe.cls=.ref C) (hq:Q true s) :
   wpAny M A (excMatches (.ref e) (.ref O)) Q E s:=by
 obtain ⟨nm,qn,N,bs,bm,hdct,sn,sub,ab,col,dd,k0,k1,k2,k3,k5,hC,hcC⟩:=T.lo _ X
 obtain ⟨nm',qn',N',bs',bm',hdct',sn',sub',ab',col',dd',k0',k1',k2',k3',k5',hO,hB⟩:=T.hi _ X
 have hcB:(Value.ref O::bm').contains (.type "BaseException")=true:=by rw[List.contains_cons,hB.be,Bool.or_true]
 have f:=tc_notTuple
 obtain ⟨h,g,d,t,os⟩:=s
 unfold excMatches
 repeat (first | (with_reducible refine wpAny_loadPart_at he ?_;rw[hcls]) | with_reducible refine wpAny_loadPart_at hO ?_ | (with_reducible refine wpAny_isSubtype_exc hO ?_;rw[hcB]) | (with_reducible refine wpAny_isSubtype_exc hC ?_;rw[hcC]) | wp_step)
 exact hq
section
variable {X:Cx} {pins:List (Addr × Obj)} {σ:St} {H:Hp} {s s':Shared} {E:XK} {v:Value} {x n:Str} {C O:Addr} {i:Nat} {np pos:Pos} {b₀:Stmt} {suite:List Stmt} {rest:List ExceptHandler} {ts:TS} {D:Ends} {Z:XK}
noncomputable def qpu (i:Nat) (D:Ends):Ends:={ nx:=fun σ H=>D.nx (σ.set i none) H,rt:=fun _ _=>False }
theorem q2a (I:Inv X pins σ H s) (hst:X.stack=X.env::X.outer) (hfr:X.env.frame=some X.env.locals) (hc:CXe X.prog X.w X.stack H s E v s') (T:qiv X.K C O) (hg:Gl X x) (hm:X.mg x=some (.ref O)) (hN:X.N.Nodup) (hi:X.N[i]? =some n) (hl:X.env.scope.names.lookup n=some .local)
   (hE:∀ cls H',E cls none H'→cls=.ref C∧∀ e,H' e=none→ts (qpu i D) (σ.set i (some (.ref e))) (upd H' e (exA C e)))
   (hs:∀ v,PSs (X.sub v) (b₀::suite) ts) (hd:(x==("__debug__":Str))=false) :
   wpAny (model X.prog X.w) X.A (noteFrame v X.env) (fun _ s₂=>wpAny (model X.prog X.w) X.A (setFlight v none) (fun _ s₃ =>
     wpAny (model X.prog X.w) X.A (handleBy v X.env (.ExceptHandler (some (.Name x np)) (some n) (b₀::suite) pos::rest)) (SP X pins D) X.xe s₃) X.xe s₂) X.xe s':=by
 obtain ⟨e,T0,cls,a0,H',rfl,hos,hbare,hun,hok,hn1,hn2,hf1,hf2,hat,hEE⟩:=hc
 obtain ⟨rfl,hk⟩:=hE _ _ hEE
 obtain ⟨hTe,oe,vs,oT,tvs,g1,⟨g2,g3⟩,g4,g5,g6,g7,g8⟩:=hat
 have I1:Inv X pins σ H' s':=I.callN' (ch:=[]) hos hun hok hbare (fun b hb=>by simp at hb)
 have ap:∀ b ∈ [e,T0],((b ∈ X.ex∨X.s₀.heap.get? b=none)∧b ≠ X.env.locals∧(∀ x c,X.env.cells.lookup x=some c→c ≠ b)∧∀ p ∈ X.pn++pins,p.1 ≠ b)∧H' b=none:=fun b hb=>by
   rcases List.mem_cons.mp hb with r | r
   · rw[r];exact⟨I.apart hn1,hf1⟩
   · rw[List.mem_singleton.mp r];exact⟨I.apart hn2,hf2⟩
 have mf:∀ env ∈ X.env::X.outer,∀ a,env.frame=some a→a ∈ frs X.stack++[e,T0]:=fun env hm a hf=>List.mem_append_left _ (by rw[hst];exact List.mem_filterMap.mpr ⟨env,hm,hf⟩)
 have fly:Heap.FlyingW (PySem.W.hideAll s'.heap (frs X.stack++[e,T0])) (X.env::X.outer) e (.ref C) a0 s'.heap:=by
   refine⟨fun b o q=>PySem.W.of_hideAll _ q,PySem.W.hideAll_none _ (by simp),PySem.W.funFrames_hide (by have:=I1.stack;rwa [hst]at this) mf,oe,vs,T0,oT,tvs,g1,⟨g2,g3⟩,g4,g5,PySem.W.hideAll_none _ (by simp),hTe,g6,g7,g8⟩
 refine wpAny_looks_onW (by rw[I.ok.frames,hst]) hfr fly fun h4 hh4 up4=> ?_
 refine wpAny_landsW hh4 fun h5 fl5 up5'=> ?_
 have up5:=up4.trans up5'
 have I5:Inv X pins σ H' { s' with heap:=h5,toks:=s'.toks }:=I1.xhop ap fl5.1 up5
 refine wpAny_handleBy_cons (codeAny_handlers_test (qbs (X:=X.sub (.ref e)) (I5.sub (.ref e)) hg hm ?_ hd)) (by intro q;cases q)
 obtain ⟨ob,hob,hobc⟩:=fl5.there
 refine qx1 (s:={ s' with heap:=h5 }) I5.kIn T hob hobc (codeAny_handlers_suite_as ?_)
 refine PyProof.Rows.lands_againW fl5 fun h6 fl6 up6=> ?_
 have I6:Inv X pins σ H' { s' with heap:=h6,toks:=s'.toks }:=I1.xhop ap fl6.1 (up5.trans up6)
 obtain ⟨oc,hoc,hocc⟩:=fl6.there
 have I7:Inv X pins σ (upd H' e (exA C e)) { s' with heap:=h6,toks:=s'.toks }:=I6.adopt hf1 (ap e (by simp)).1 (q18 hoc hocc)
 refine qhx (s:={ s' with heap:=h6,toks:=s'.toks }) I7 hN hi (.inl hl) (v:=.ref e) rfl (fun s8 I8=> ?_) (.inr hl)
 refine wpAny_mono (hs (.ref e) pins s8 _ _ _ (I8.sub (.ref e)) (hk e hf1)) (fun f s9 q=> ?_) (fun _ _ z=>False.elim z)
 cases f with
 | next =>
   obtain ⟨σ',H9,I9,q9⟩:=q
   exact qr5 (I9.unsub I.ok) hN hi hl fun s10 I10=>⟨_,H9,I10,q9⟩
 | brk=>obtain ⟨σ',H9,I9,q9⟩:=q;exact False.elim q9
 | cont=>obtain ⟨σ',H9,I9,q9⟩:=q;exact False.elim q9
 | ret u=>obtain ⟨v,σ',H9,I9,r9,q9⟩:=q;exact False.elim q9
end
section
variable {X:Cx} {body:List Stmt} {h₀:ExceptHandler} {hs:List ExceptHandler} {pos:Pos} {t:TS}
theorem qx2 (hb:PSs X.nox body t):PS X (.Try body (h₀::hs) [] [] pos) t:=by
 intro pins s σ H D I h
 refine wpAny_Try_except (wpAny_mono (hb pins s σ H D (I.wish _) h) (fun f s1 q=> ?_) fun _ _ z=>False.elim z)
 have q':=q.unwish
 cases f <;> first | exact q' | exact wpAny_execs_nil q'
end
section
variable {X:Cx} {E:XK} {x n g:Str} {C O:Addr} {i j:Nat} {np pos:Pos} {b₀:Stmt} {suite:List Stmt} {rest:List ExceptHandler} {ts:TS}
variable {k:Nat} {f:Addr} {fd:FuncData} {ps:List Str} {sp:Sp} {e:Expr} {es:List Expr} {ta:TA} {y:Str} {py p pc pa hp:Pos}
noncomputable def q7f (C:Addr) (i:Nat) (sp:Sp) (ta:TA) (ts:TS):TS:=fun D σ H=>ta σ H fun vs H1=>sp vs H1 (fun _ _=>False) fun cls _ H'=>cls=.ref C∧∀ a,H' a=none→ts (qpu i D) (σ.set i (some (.ref a))) (upd H' a (exA C a))
theorem qx3 (hst:X.stack=X.env::X.outer) (hfr:X.env.frame=some X.env.locals) (F:qay X.prog X.w X.K X.mg X.base (CXe X.prog X.w) k f fd ps sp) (hr:qaw k X.A) (hgg:Gl X g) (hmg:X.mg g=some (.ref f)) (hkp:PySem.W.keepIn X.K (.ref f)=true) (hbd:Binds X.K fd ps [])
   (ha:PA X.nox (e::es) ta) (hdg:(g==("__debug__":Str))=false) (he:starEach (e::es) X.env=(false,eval e X.env)::starEach es X.env) (hpl:(backTo pc (starEach es X.env)).any (·.1)=false) (hsw:swapsWith (.Call (.Name g p) (e::es) [] pc) (some (.Name y py)) pa.line X.env=pure false)
   (T:qiv X.K C O) (hg:Gl X x) (hm:X.mg x=some (.ref O)) (hN:X.N.Nodup) (hi:X.N[i]? =some n) (hl:X.env.scope.names.lookup n=some .local) (hs:∀ v,PSs (X.sub v) (b₀::suite) ts) (hd:(x==("__debug__":Str))=false) :
   PS X (.Try [.Assign [.Name y py] (.Call (.Name g p) (e::es) [] pc) pa] (.ExceptHandler (some (.Name x np)) (some n) (b₀::suite) hp::rest) [] [] pos) (q7f C i sp ta ts):=by
 intro pins s σ H D I h
 refine wpAny_Try_except (wpAny_execs_cons ?_)
 refine wpAny_Assign_Name (wpAny_Call_Name_kw (qbs I hgg hmg ?_ hdg)) hsw
 refine PySem.W.callWith_K (h₀:=X.base) I.ok.mod.kin hkp (wpAny_mono (ha pc pins s σ H _ (I.wish _) h) (fun us s1 ⟨vs,H1,I1',r,q⟩=> ?_) fun _ _ z=>False.elim z) he hpl
 have I1:Inv X pins σ H1 s1:=I1'.unwish
 refine⟨I1.kIn,?_⟩
 have hlen:us.length=ps.length:=by rw[← r.length];exact F.len _ _ _ _ q
 refine wpAny_call (codeAny_mono (F.run X.A X.stack s1 H1 ⟨us,[]⟩ us vs _ _ hr I1.env0 (by have:=hbd s1 us I1.kIn (by simpa using hlen);simpa using this) r q) fun r s' hq=> ?_)
 cases r with
 | error v=>exact q2a (E:=fun cls _ H'=>cls=.ref C∧∀ a,H' a=none→ts (qpu i D) (σ.set i (some (.ref a))) (upd H' a (exA C a))) I1 hst hfr hq T hg hm hN hi hl (fun cls H' z=>z) hs hd
 | ok fl =>
   cases fl with
   | ret u=>obtain ⟨_,_,_,_,_,_,_,z⟩:=hq;exact False.elim z
   | next=>exact False.elim hq
   | brk=>exact False.elim hq
   | cont=>exact False.elim hq
end
end L2
namespace T3
open PySem PySem.Spec PyProof.Rows L2
theorem qva {H:Hp} {a:Addr} {o o':HO} (h:H a=none):gone (upd (upd H a o) a o') a=H:=by
 funext b
 by_cases hb:b=a
 · subst hb;rw[ql7,h]
 · rw[ql6 hb,qg hb,qg hb]
noncomputable def tRz (C:Addr) (W:XK) (g:Env→Sto→Option Sto):TS:=fun _ σ H=>∃ w Γ S S',Rel w H σ Γ∧qi w H S∧g Γ S=some S'∧∀ w' H',Le w H w' H'→qi w' H' S'→W (.ref C) none H'
noncomputable def qd2 (fb:Env→M Bool):Env→Sto→Option Sto:=fun Γ S=>match fb Γ S with
 | .ok true S'=>some S'
 | _=>none
noncomputable def qbd (m:MS) (g:Env→Sto→Option Sto):Env→Sto→Option Sto:=fun Γ S=>match m Γ S with
 | .ok (.nx,Γ') S'=>g Γ' S'
 | _=>none
section
variable {X:Cx} {C f:Addr} {W:XK} {E E':XK} {k k':Nat} {fd:FuncData} {x z:Str} {p pz cpos pos:Pos} {tk:Nat} {c:Expr} {els rest:List Stmt} {st:Stmt} {fb:Env→M Bool} {m:MS} {g:Env→Sto→Option Sto}
theorem qy1 (hw:qpt X C W) (hc:X.calm=true) (M:qeq X.K C f) (F:qay X.prog X.w X.K X.mg X.base CX0 k f fd ["self","why"] (spB C)) (hr:qaw k' X.A) (hk:k+1≤k') (hg:Gl X x) (hm:X.mg x=some (.ref C)) (hb:Binds X.K fd ["self","why"] []) (hdb:(x==("__debug__":Str))=false) (hex:X.ex=[]) :
   PS X (.Raise (some (.Call (.Name x p) [.Constant (.str z) tk pz] [] cpos)) none pos) (fun _ _ H=>W (.ref C) none H):=by
 refine PS.mono (qr3 (E:=E0) hw hc M F (hr.mono hk) hg hm hb .nil (fun _ _ _ _ _ _ _ h=>False.elim h) (qah qfx qc6 rfl) hdb rfl rfl hex) fun D σ H q=> ?_
 refine⟨by show 1≤sizeLine;decide,fun a ha h0=>⟨a,z,rfl,qj,rfl,a,false,rfl,qj,h0,?_⟩⟩
 rw[qva ha]
 exact q
theorem qy2 (hc:PT X c (tB (xw E') fb)) (hr:PS X st (fun _ _ H=>W (.ref C) none H)):PSs X (.If c [st] els pos::rest) (tRz C W (qd2 fb)):=by
 refine PSs.mono (qdm (qyp hc (qe6 hr) (qj5 (sts:=els))) (qj5 (sts:=rest))) fun D σ H ⟨w,Γ,S,S',rel,hold,e,q⟩=> ?_
 refine⟨w,Γ,S,rel,hold,?_⟩
 unfold qd2 at e
 cases e1:fb Γ S with
 | no=>rw[e1]at e;cases e
 | err y S1=>rw[e1]at e;cases e
 | ok b S1 =>
   rw[e1]at e
   cases b with
   | false=>cases e
   | true =>
     cases e
     intro w' H' l h
     exact q w' H' l h
theorem qhs (h1:PS X st (tS (xw E') m)) (h2:PSs X rest (tRz C W g)):PSs X (st::rest) (tRz C W (qbd m g)):=by
 refine PSs.mono (qdm h1 h2) fun D σ H ⟨w,Γ,S,S',rel,hold,e,q⟩=> ?_
 refine⟨w,Γ,S,rel,hold,?_⟩
 unfold qbd at e
 cases e1:m Γ S with
 | no=>rw[e1]at e;cases e
 | err y S1=>rw[e1]at e;cases e
 | ok r S1 =>
   rw[e1]at e
   obtain ⟨fl,Γ1⟩:=r
   cases fl with
   | rt d=>cases e
   | bk=>cases e
   | ct=>cases e
   | nx =>
     intro w' H' l h σ' rel'
     exact⟨w',Γ1,S1,S',rel',h,e,fun w'' H'' l' h'=>q w'' H'' (l.trans l') h'⟩
end
noncomputable def spR (n m:Nat) (C:Addr) (g:Env→Sto→Option Sto):Sp:=fun vs H _ E=>∃ w ds S S',qf w H ds vs∧qi w H S∧ds.length=n∧g (ds.map some++List.replicate m none) S=some S'∧∀ w' H',Le w H w' H'→qi w' H' S'→E (.ref C) none H'
section
variable {P:Program} {w:World} {K:PySem.W.Frag} {mg:Str→Option Value} {base:Heap}
theorem q7g {x qual:Str} {st:Stmt} {f C:Addr} {fd:FuncData} {N ps:List Str} {k:Nat} {g:Env→Sto→Option Sto} (F:Fun K x qual st f fd) (S:qan N ps (qb st))
   (hb:∀ (cdv:Value) (A:Around) (outer:List PySem.Env) (s:Shared) (H:Hp) (E:XK),qaw k (A.deeper (envOfC qual (qb st) s.heap.objs.size f cdv))→PSs (qa8 (CXe P w) P w K mg base N qual (qb st) f cdv A outer s H E) (qq st) (tRz C E g)) :
   qay P w K mg base (CXe P w) (k+1) f fd ps (spR ps.length (N.length - ps.length) C g):=by
 refine F.okX S (fun vs H Q E h=> ?_) (fun cdv A outer s H vs Q E hr h=> ?_)
 · obtain ⟨w,ds,S,S',r,_,e,_⟩:=h
   rw[← r.length];exact e
 · obtain ⟨w,ds,S,S',r,hold,e,eg,q⟩:=h
   refine⟨_,hb cdv A outer s H E hr,w,_,S,S',?_,hold,eg,q⟩
   have:=Rel.start (m:=N.length - ps.length) r
   unfold L2.start
   rw[← r.length,e]
   exact this
theorem qx4 {Φ:List Fd} {s:Sx} {N ps:List Str} {qual:Str} {sc:Scope} {f:Addr} {cdv:Value} {A:Around} {outer:List PySem.Env} {s₀:Shared} {H:Hp} {E E':XK} (S:qan N ps sc) (hN:s.N=N) (hsc:s.sc=sc) (hf:s.fnb=fun _=>true) (hr:qaw s.L (A.deeper (envOfC qual sc s₀.heap.objs.size f cdv)))
   (hb:∀ b ∈ s.bs,mg b=none) (hm:qim P w K mg s.md) (hF:FT CX0 P w K mg base s.fns Φ):Gd CX0 Φ s (qa8 (CXe P w) P w K mg base N qual sc f cdv A outer s₀ H E).nox E':=qio (E:=E) S hN hsc hf hr hb hm hF
end
noncomputable def qiw (n m:Nat) (as:Env→M (List D)) (g:Env→Sto→Option Sto) (Γ:Env) (S:Sto):Option Sto:=match as Γ S with
 | .ok ds S1=>if ds.length=n then g (ds.map some++List.replicate m none) S1 else none
 | _=>none
noncomputable def qpv (n m:Nat) (as:Env→M (List D)) (g:Env→Sto→Option Sto) (i j:Nat) (hs:List D) (b:MS):MS:=fun Γ S=>match qiw n m as g Γ S with
 | some S'=>.ok (.nx,(Γ.set j (some (.lst hs))).set i none) S'
 | none=>b Γ S
theorem Rel.catch {w:Wd} {H:Hp} {σ:St} {Γ:Env} {i j:Nat} {d:D} {v u:V} (r:Rel w H σ Γ) (ne:j ≠ i) (h:Rep w H d v):Rel w H (((σ.set i (some u)).set j (some v)).set i none) ((Γ.set j (some d)).set i none):=by
 refine⟨by simp [r.len],fun k e q=> ?_⟩
 by_cases hk:k=i
 · subst hk
   rw[List.getElem?_set]at q
   simp only [if_true]at q
   split at q <;> cases q
 · rw [List.getElem?_set_ne (Ne.symm hk)]at q ⊢
   by_cases hj:k=j
   · subst hj
     rw[List.getElem?_set]at q
     simp only [if_true]at q
     split at q
     · rename_i hl
       cases q
       refine⟨v,?_,h⟩
       rw[List.getElem?_set_self (by simpa [r.len]using hl)]
     · cases q
   · rw[List.getElem?_set_ne (Ne.symm hj)]at q ⊢
     rw[List.getElem?_set_ne (Ne.symm hk)]
     exact r.at_ k e q
section
variable {X:Cx} {E':XK} {x n g:Str} {C O:Addr} {i j m:Nat} {np pos:Pos} {b₀:Stmt} {suite:List Stmt} {rest:List ExceptHandler} {ts:TS} {gz:Env→Sto→Option Sto} {hs:List D} {us:List V} {as:Env→M (List D)} {b:MS}
variable {k k':Nat} {f:Addr} {fd:FuncData} {ps:List Str} {e:Expr} {es:List Expr} {y:Str} {py p pc pa hp:Pos}
theorem q49 (hxe:X.nox=X) (hst:X.stack=X.env::X.outer) (hfr:X.env.frame=some X.env.locals) (F:qay X.prog X.w X.K X.mg X.base (CXe X.prog X.w) k f fd ps (spR ps.length m C gz)) (hr:qaw k' X.A) (hk:k≤k') (hgg:Gl X g) (hmg:X.mg g=some (.ref f)) (hkp:PySem.W.keepIn X.K (.ref f)=true) (hbd:Binds X.K fd ps [])
   (ha:PA X (e::es) (tL (xw E') as)) (hdg:(g==("__debug__":Str))=false) (he:starEach (e::es) X.env=(false,eval e X.env)::starEach es X.env) (hpl:(backTo pc (starEach es X.env)).any (·.1)=false) (hsw:swapsWith (.Call (.Name g p) (e::es) [] pc) (some (.Name y py)) pa.line X.env=pure false)
   (T:qiv X.K C O) (hg:Gl X x) (hm:X.mg x=some (.ref O)) (hN:X.N.Nodup) (hi:X.N[i]? =some n) (hl:X.env.scope.names.lookup n=some .local) (hd:(x==("__debug__":Str))=false) (hb:PSs X [.Assign [.Name y py] (.Call (.Name g p) (e::es) [] pc) pa] (tS (xw E') b))
   (hs1:∀ v,PSs (X.sub v) (b₀::suite) ts) (hs2:∀ D σ H a,H a=some (exA C a)→σ[i]? =some (some (.ref a))→(∀ q,H q=none→D.nx (σ.set j (some (.ref q))) (upd H q (.lst us)))→ts D σ H) (hus:∀ w H,qf w H hs us) (ne:j ≠ i) :
   PS X (.Try [.Assign [.Name y py] (.Call (.Name g p) (e::es) [] pc) pa] (.ExceptHandler (some (.Name x np)) (some n) (b₀::suite) hp::rest) [] [] pos) (tS (xw E') (qpv ps.length m as gz i j hs b)):=by
 intro pins s σ H D I ⟨w,Γ,S,rel,hold,q⟩
 unfold qpv at q
 cases e1:qiw ps.length m as gz Γ S with
 | none =>
   rw[e1]at q
   exact qx2 (X:=X) (t:=tS (xw E') b) (by rw[hxe];exact hb) pins s σ H D I ⟨w,Γ,S,rel,hold,q⟩
 | some S' =>
   rw[e1]at q
   refine qx3 (i:=i) (X:=X) hst hfr F (hr.mono hk) hgg hmg hkp hbd (by rw[hxe];exact ha) hdg he hpl hsw T hg hm hN hi hl hs1 hd pins s σ H D I ?_
   unfold qiw at e1
   refine⟨w,Γ,S,rel,hold,?_⟩
   cases e2:as Γ S with
   | no=>rw[e2]at e1;cases e1
   | err z S1=>rw[e2]at e1;cases e1
   | ok ds S1 =>
     rw[e2]at e1
     dsimp only at e1
     split at e1
     · rename_i hlen
       intro w1 H1 l1 h1 vs rv
       refine⟨w1,ds,S1,S',rv,h1,hlen,e1,fun w2 H2 l2 h2=>⟨rfl,fun a hz=> ?_⟩⟩
       have hiσ:i < σ.length:=by rw[I.len];exact(List.getElem?_eq_some_iff.mp hi).1
       refine hs2 _ _ _ a qj (List.getElem?_set_self hiσ) fun z hz2=> ?_
       have h3:=qcy (o:=exA C a) h2 hz
       have l3:=qcc (o:=exA C a) h2 hz
       have h4:=qcy (o:=HO.lst us) h3 hz2
       have l4:=qcc (o:=HO.lst us) h3 hz2
       have l:=l1.trans (l2.trans (l3.trans l4))
       exact q _ _ l h4 _ ((rel.mono l).catch ne ⟨z,us,rfl,.inl rfl,qj,hus _ _⟩)
     · cases e1
end
noncomputable def qht (s:Stmt):List Stmt:=match s with
 | .ClassDef _ _ _ b _ _ _ _ _ _ _=>b
 | _=>[]
section
variable {K:PySem.W.Frag} {C O f N:Addr} {nm qn:Str} {bs bm:List Value} {hdct:Bool} {sn:List Str} {sub:List Value} {ab:Bool} {col:Option Bool} {dd:Option Addr} {k0 k1 k2 k3 k5:Option Value}
theorem qx5 {h:Heap} {N:Addr} {m:Str→Option Value} {n:Str} {v:Value} (X:K.In h) (G:h.Ns N m) (e:PySem.W.nsIn K N n=some (some v)):m n=some v:=by
 obtain ⟨o,es,ep,ho,hd,_,hf⟩:=G
 unfold PySem.W.nsIn at e
 split at e
 · rename_i c d es' n' sl q
   have:=X _ _ q
   rw[ho]at this
   cases this
   cases hd
   split at e
   · rename_i en he
     cases e
     rw[← hf]
     unfold nsFind findBy
     rw[← Array.find?_toList,he]
     rfl
   · split at e <;> cases e
 · cases e
theorem qx6 {c:Value} {d:Option Addr} {es:Array DictEntry} {n:Nat} {sl:Array (Option Value)} (lk:K.lookup N=some ⟨c,d,.dict es n,sl⟩) (h:(es.toList.all fun e=>match e.key with | .str _ _=>true | _=>false)=true):PySem.W.nsOkIn K N=true:=by
 unfold PySem.W.nsOkIn
 rw[lk]
 show Array.all es _=true
 rw[← Array.all_toList]
 exact h
theorem q2b {fd:FuncData} {p1 p2:Str} (h:∀ a b S,PySem.W.peek K S (bindArgs fd ⟨[a,b],[]⟩)=some ([p1,p2].zip [a,b])):Binds K fd [p1,p2] []:=fun s us X hl=>by
 rw[List.append_nil]at hl ⊢
 exact qls (P:=fun us=>BindsTo s fd ⟨us,[]⟩ ([p1,p2].zip us)) (fun a b=>PySem.W.kp_binds X (h a b)) us hl
theorem q2c {fd:FuncData} {p1 p2 p3:Str} (h:∀ a b c S,PySem.W.peek K S (bindArgs fd ⟨[a,b,c],[]⟩)=some ([p1,p2,p3].zip [a,b,c])):Binds K fd [p1,p2,p3] []:=fun s us X hl=>by
 rw[List.append_nil]at hl ⊢
 exact q6x (P:=fun us=>BindsTo s fd ⟨us,[]⟩ ([p1,p2,p3].zip us)) (fun a b c=>PySem.W.kp_binds X (h a b c)) us hl
theorem qvb {fd:FuncData} {od:Option Addr} {sl:Array (Option Value)} (lk:K.lookup C=some (qc1 nm qn C N bs bm hdct sn sub ab col dd k0 k1 k2 k3 k5)) (B:Above bm) (hok:PySem.W.nsOkIn K N=true) (hi:PySem.W.nsIn K N "__init__"=some (some (.ref f)))
   (lf:K.lookup f=some ⟨.type "function",od,.func fd,sl⟩) (kp:PySem.W.keepIn K (.ref C)=true):qeq K C f where
 obj:=fun h X=>⟨nm,qn,N,bs,bm,hdct,sn,sub,ab,col,dd,k0,k1,k2,k3,k5,h.nsMap N,X _ _ lk,B,.of_isNs (PySem.W.isNs_of_in X hok),qx5 X (.of_isNs (PySem.W.isNs_of_in X hok)) hi⟩
 fn:=fun h X=>⟨_,X _ _ lf,rfl⟩
 kp:=kp
theorem qvc {nm' qn':Str} {N':Addr} {bs' bm':List Value} {hdct':Bool} {sn':List Str} {sub':List Value} {ab':Bool} {col':Option Bool} {dd':Option Addr} {k0' k1' k2' k3' k5':Option Value}
   (lk:K.lookup C=some (qc1 nm qn C N bs bm hdct sn sub ab col dd k0 k1 k2 k3 k5)) (hc:(Value.ref C::bm).contains (.ref O)=true) (lo:K.lookup O=some (qc1 nm' qn' O N' bs' bm' hdct' sn' sub' ab' col' dd' k0' k1' k2' k3' k5')) (B:Above bm'):qiv K C O where
 lo:=fun h X=>⟨nm,qn,N,bs,bm,hdct,sn,sub,ab,col,dd,k0,k1,k2,k3,k5,X _ _ lk,hc⟩
 hi:=fun h X=>⟨nm',qn',N',bs',bm',hdct',sn',sub',ab',col',dd',k0',k1',k2',k3',k5',X _ _ lo,B⟩
end
section
variable {X:Cx} {i j:Nat} {x e y:Str} {v:Value} {p1 p2 p3 p4:Pos} {es:List Expr} {ta:TA} {us:List V} {C:Addr}
noncomputable def q2d (K:PySem.W.Frag) (i:Nat) (v:V):TE:=tCB (q48 K) (qsy (qhy i) (qsy (tC v) qzz))
theorem q2e {D:Addr} (hi:X.N[i]? =some e) (he:Vis X.env.scope e) (h1:(e==("__debug__":Str))=false) (h2:(e==("__classdict__":Str))=false) (hg:Gl X "isinstance") (hm:X.mg "isinstance"=none) (hgx:Gl X x) (hmx:X.mg x=some (.ref D)) (hdx:(x==("__debug__":Str))=false) :
   PE X (.Call (.Name "isinstance" p1) [.Name e p2,.Name x p3] [] p4) (q2d X.K i (.ref D)) :=
 qmw qu9 hg hm qel (qah (qhz hi he h1 h2) (qah (qvw hgx hmx rfl hdx) qc6 rfl) rfl) (by decide) (by decide) rfl rfl
theorem ql9 {K:PySem.W.Frag} {σ:St} {H:Hp} {a D:Addr} {b:Bool} {Q:VK} (S:qiu K C) (e:PySem.W.kitOne K (.ref C) (.ref D)=some b) (h1:H a=some (exA C a)) (h2:σ[i]? =some (some (.ref a))) (q:Q (.bl b) H):q2d K i (.ref D) σ H Q :=
 ⟨.ref a,h2,a,C,.ref D,.ref D,b,rfl,.inl ⟨D,rfl,rfl⟩,h1,S,e,q⟩
theorem qr6 {σ:St} {H:Hp} {D:Ends} (hu:us.length≤100) (h:∀ Q:List V→Hp→Prop,Q us H→ta σ H Q) (q:∀ p,H p=none→D.nx (σ.set j (some (.ref p))) (upd H p (.lst us))):qst (qz0 ta) (qmt j) D σ H :=
 h _ ⟨Nat.le_trans hu (by rw[sizeLine_eq];decide),fun p hp=>q p hp⟩
end
structure Rd0 (X:Cx) (K:PySem.W.Frag) (mg:Str→Option Value) (s:Sx):Prop where
 N:X.N=s.N
 sc:X.env.scope=s.sc
 K:X.K=K
 mg:X.mg=mg
 fn:X.fn=fun _=>true
 nd:s.N.Nodup
section
variable {X:Cx} {K:PySem.W.Frag} {mg:Str→Option Value} {s:Sx} {i j:Nat} {x e y:Str} {p1 p2 p3 p4:Pos} {es:List Expr} {ta:TA}
theorem Rd0.isx {D:Addr} (R:Rd0 X K mg s) (he:qa9 s i e=true) (hi:qdz s "isinstance"=true) (hx:qdz s x=true) (m1:mg "isinstance"=none) (m2:mg x=some (.ref D)):PE X (.Call (.Name "isinstance" p1) [.Name e p2,.Name x p3] [] p4) (q2d K i (.ref D)):=by
 obtain ⟨a1,a2⟩:=qe4 (X:=X) R.sc hi
 obtain ⟨b1,b2⟩:=qe4 (X:=X) R.sc hx
 unfold qa9 at he
 simp only [Bool.and_eq_true,Bool.not_eq_true',decide_eq_true_eq]at he
 have:=q2e (X:=X) (i:=i) (D:=D) (p1:=p1) (p2:=p2) (p3:=p3) (p4:=p4) (by rw[R.N];exact he.1.1.1) (by rw[R.sc];exact qlq he.1.1.2) he.1.2 he.2 a1 (by rw[R.mg];exact m1) b1 (by rw[R.mg];exact m2) b2
 rw[R.K]at this
 exact this
theorem Rd0.suite (R:Rd0 X K mg s) (hj:qgx s j y=true) (ha:PA X es ta):PSs X [.Assign [.Name y p1] (.List es p2) p3] (qst (qz0 ta) (qmt j)):=by
 unfold qgx at hj
 simp only [Bool.and_eq_true,decide_eq_true_eq,Bool.or_eq_true]at hj
 exact qe6 (qos (by rw[R.N];exact R.nd) (by rw[R.N];exact hj.1.1) (by rw[R.sc];exact qum hj.1.2) (qo0 ha) (qdx rfl) (.inl (by rw[R.fn])))
end
section
variable {P:Program} {w:World} {K:PySem.W.Frag} {mg:Str→Option Value} {base:Heap} {Φ:List Fd}
variable {x n g y:Str} {C O:Addr} {i j m:Nat} {np pos:Pos} {b₀:Stmt} {suite post:List Stmt} {rest:List ExceptHandler} {ts:TS} {gz:Env→Sto→Option Sto} {hs:List D} {us:List V}
variable {k kr:Nat} {f fr:Addr} {fd fdr:FuncData} {N ps psr:List Str} {e:Expr} {es:List Expr} {py p pc pa hp:Pos} {nm qual:Str} {st s0 s1:Stmt} {fns:List (Str × Nat × Nat)} {bs:List Str} {md:Md} {p0 p1:CS} {cb cz:CSL} {ca:CL}
structure q2f (P:Program) (w:World) (K:PySem.W.Frag) (mg:Str→Option Value) (base:Heap) (sx:Sx) (C O:Addr) (psr:List Str) (m:Nat) (gz:Env→Sto→Option Sto) (x n g y:Str) (i j:Nat) (b₀:Stmt) (suite:List Stmt) (hs:List D) (e:Expr) (es:List Expr) (cb:CSL) (ca:CL) (py p pc pa:Pos):Prop where
 fn:∃ kr fr fdr,qay P w K mg base (CXe P w) kr fr fdr psr (spR psr.length m C gz)∧kr≤sx.L∧mg g=some (.ref fr)∧PySem.W.keepIn K (.ref fr)=true∧Binds K fdr psr []
 hit:qiv K C O
 mx:mg x=some (.ref O)
 ggl:qdz sx g=true
 xgl:qdz sx x=true
 ei:qa9 sx i n=true
 el:lcl sx.sc n=true
 ca:qgg sx ca (e::es)=true
 cb:qin sx cb [.Assign [.Name y py] (.Call (.Name g p) (e::es) [] pc) pa]=true
 ns:(e::es).all notStar=true
 su:∃ ts us,(∀ X,Rd0 X K mg sx→PSs X (b₀::suite) ts)∧(∀ D σ H a,H a=some (exA C a)→σ[i]? =some (some (.ref a))→(∀ q,H q=none→D.nx (σ.set j (some (.ref q))) (upd H q (.lst us)))→ts D σ H)∧∀ w H,qf w H hs us
 ne:j ≠ i
theorem q2f.run {sc:Scope} {cdv:Value} {A:Around} {outer:List PySem.Env} {s:Shared} {H:Hp} {E:XK} (T:q2f P w K mg base ⟨N,sc,fun _=>true,fns,k,bs,md⟩ C O psr m gz x n g y i j b₀ suite hs e es cb ca py p pc pa) (S:qan N ps sc)
   (hr:qaw k (A.deeper (envOfC qual sc s.heap.objs.size f cdv))) (hb:∀ b ∈ bs,mg b=none) (hm:qim P w K mg md) (hF:FT CX0 P w K mg base fns Φ) :
   PS (qa8 CX0 P w K mg base N qual sc f cdv A outer s H E).nox (.Try [.Assign [.Name y py] (.Call (.Name g p) (e::es) [] pc) pa] (.ExceptHandler (some (.Name x np)) (some n) (b₀::suite) hp::rest) [] [] pos) (tS (xw E) (qpv psr.length m (evA Φ fns ca) gz i j hs (qaf Φ fns cb))):=by
 have G:Gd CX0 Φ ⟨N,sc,fun _=>true,fns,k,bs,md⟩ (qa8 CX0 P w K mg base N qual sc f cdv A outer s H E).nox E:=qio S rfl rfl rfl hr hb hm hF
 obtain ⟨kr,fr,fdr,FR,hkr,hmg,hkp,hbd⟩:=T.fn
 obtain ⟨ts,us,hs1,hs2,hus⟩:=T.su
 obtain ⟨a1,a2⟩:=qe4 (X:=(qa8 CX0 P w K mg base N qual sc f cdv A outer s H E).nox) (s:=⟨N,sc,fun _=>true,fns,k,bs,md⟩) rfl T.ggl
 obtain ⟨b1,b2⟩:=qe4 (X:=(qa8 CX0 P w K mg base N qual sc f cdv A outer s H E).nox) (s:=⟨N,sc,fun _=>true,fns,k,bs,md⟩) rfl T.xgl
 have hn:=T.ei
 unfold qa9 at hn
 simp only [Bool.and_eq_true,Bool.not_eq_true',decide_eq_true_eq]at hn
 have hl:sc.names.lookup n=some .local:=by have:=T.el;unfold lcl at this;simpa using this
 have hns:=T.ns
 rw[List.all_cons,Bool.and_eq_true]at hns
 exact q49 rfl rfl rfl FR hr hkr a1 hmg hkp hbd (sA nw0 ca G T.ca) a2 (qac hns.1) (qdw hns.2) (qdx rfl) T.hit b1 T.mx S.nd hn.1.1.1 hl b2 (sL nw0 cb G T.cb) (fun v=>hs1 _ ⟨rfl,rfl,rfl,rfl,rfl,S.nd⟩) hs2 hus T.ne
theorem qvd (F:Fun K nm qual st f fd) (S:qan N ps (qb st)) (hst:qq st=s0::s1::.Try [.Assign [.Name y py] (.Call (.Name g p) (e::es) [] pc) pa] (.ExceptHandler (some (.Name x np)) (some n) (b₀::suite) hp::rest) [] [] pos::post) (hb:∀ b ∈ bs,mg b=none) (hm:qim P w K mg md) (hF:FT CX0 P w K mg base fns Φ)
   (h0:qpk ⟨N,qb st,fun _=>true,fns,k,bs,md⟩ p0 s0=true) (h1:qpk ⟨N,qb st,fun _=>true,fns,k,bs,md⟩ p1 s1=true) (hz:qin ⟨N,qb st,fun _=>true,fns,k,bs,md⟩ cz post=true)
   (T:q2f P w K mg base ⟨N,qb st,fun _=>true,fns,k,bs,md⟩ C O psr m gz x n g y i j b₀ suite hs e es cb ca py p pc pa) :
   qay P w K mg base CX0 (k+1) f fd ps (spT ps.length (qcj (seqS (evS Φ fns p0) (seqS (evS Φ fns p1) (seqS (qpv psr.length m (evA Φ fns ca) gz i j hs (qaf Φ fns cb)) (qaf Φ fns cz)))) (N.length - ps.length))) :=
 q4m F S fun cdv A outer s H E hr=>by
   have G:Gd CX0 Φ ⟨N,qb st,fun _=>true,fns,k,bs,md⟩ (qa8 CX0 P w K mg base N qual (qb st) f cdv A outer s H E).nox E:=qio S rfl rfl rfl hr hb hm hF
   rw[hst]
   exact qlk (sS nw0 p0 G h0) (qlk (sS nw0 p1 G h1) (qlk (T.run S hr hb hm hF) (sL nw0 cz G hz)))
end
noncomputable def qr7 (g h:Env→Sto→Option Sto):Env→Sto→Option Sto:=fun Γ S=>match g Γ S with
 | some S'=>some S'
 | none=>h Γ S
theorem q5a {X:Cx} {C:Addr} {W:XK} {body:List Stmt} {g h:Env→Sto→Option Sto} (h1:PSs X body (tRz C W g)) (h2:PSs X body (tRz C W h)):PSs X body (tRz C W (qr7 g h)):=by
 intro pins s σ H D I ⟨w,Γ,S,S',rel,hold,e,q⟩
 unfold qr7 at e
 cases e1:g Γ S with
 | some S1=>rw[e1]at e;cases e;exact h1 pins s σ H D I ⟨w,Γ,S,_,rel,hold,e1,q⟩
 | none=>rw[e1]at e;exact h2 pins s σ H D I ⟨w,Γ,S,S',rel,hold,e,q⟩
section
variable {P:Program} {w:World} {K:PySem.W.Frag} {mg:Str→Option Value} {base:Heap} {Φ:List Fd}
theorem qx7 {x qual xc z1 z2:Str} {st s0 s2:Stmt} {f C fi:Addr} {fd fdi:FuncData} {N ps:List Str} {k ki:Nat} {c1 c2:Expr} {b1 b2:CB} {q0 q1 q2:CS} {els1 els2 rest:List Stmt} {p1 p2 p3 p4 p5 r1 r2 r3 r4 r5:Pos} {tk1 tk2:Nat} {fns:List (Str × Nat × Nat)} {bs:List Str} {md:Md} (F:Fun K x qual st f fd) (S:qan N ps (qb st))
   (hst:qq st=s0::.If c1 [.Raise (some (.Call (.Name xc p1) [.Constant (.str z1) tk1 p2] [] p3)) none p4] els1 p5::s2::.If c2 [.Raise (some (.Call (.Name xc r1) [.Constant (.str z2) tk2 r2] [] r3)) none r4] els2 r5::rest)
   (h0:qpk ⟨N,qb st,fun _=>true,fns,k,bs,md⟩ q0 s0=true) (hb1:qgf ⟨N,qb st,fun _=>true,fns,k,bs,md⟩ b1 c1=true)
   (h1:qpk ⟨N,qb st,fun _=>true,fns,k,bs,md⟩ q1 (.If c1 [.Raise (some (.Call (.Name xc p1) [.Constant (.str z1) tk1 p2] [] p3)) none p4] els1 p5)=true) (h2:qpk ⟨N,qb st,fun _=>true,fns,k,bs,md⟩ q2 s2=true) (hb2:qgf ⟨N,qb st,fun _=>true,fns,k,bs,md⟩ b2 c2=true)
   (hg:qdz ⟨N,qb st,fun _=>true,fns,k,bs,md⟩ xc=true) (hb:∀ b ∈ bs,mg b=none) (hm:qim P w K mg md) (hF:FT CX0 P w K mg base fns Φ)
   (hmc:mg xc=some (.ref C)) (M:qeq K C fi) (FI:qay P w K mg base CX0 ki fi fdi ["self","why"] (spB C)) (hki:ki+1≤k) (hbi:Binds K fdi ["self","why"] []) :
   qay P w K mg base (CXe P w) (k+1) f fd ps (spR ps.length (N.length - ps.length) C (qr7 (qbd (evS Φ fns q0) (qd2 (evB Φ fns b1))) (qbd (evS Φ fns q0) (qbd (evS Φ fns q1) (qbd (evS Φ fns q2) (qd2 (evB Φ fns b2))))))):=by
 refine q7g F S fun cdv A outer s H E hr=> ?_
 rw[hst]
 have G:Gd CX0 Φ ⟨N,qb st,fun _=>true,fns,k,bs,md⟩ (qa8 (CXe P w) P w K mg base N qual (qb st) f cdv A outer s H E).nox E0:=qx4 S rfl rfl rfl hr hb hm hF
 obtain ⟨g1,g2⟩:=qe4 (X:=qa8 (CXe P w) P w K mg base N qual (qb st) f cdv A outer s H E) (s:=⟨N,qb st,fun _=>true,fns,k,bs,md⟩) rfl hg
 have i1:=qy2 (els:=els1) (pos:=p5) (rest:=s2::.If c2 [.Raise (some (.Call (.Name xc r1) [.Constant (.str z2) tk2 r2] [] r3)) none r4] els2 r5::rest) (PT.nox (sB nw0 b1 G hb1)) (qy1 (p:=p1) (pz:=p2) (cpos:=p3) (pos:=p4) (z:=z1) (tk:=tk1) (W:=E) qkt rfl M FI hr hki g1 hmc hbi g2 rfl)
 have i2:=qy2 (els:=els2) (pos:=r5) (rest:=rest) (PT.nox (sB nw0 b2 G hb2)) (qy1 (p:=r1) (pz:=r2) (cpos:=r3) (pos:=r4) (z:=z2) (tk:=tk2) (W:=E) qkt rfl M FI hr hki g1 hmc hbi g2 rfl)
 exact q5a (qhs (PS.nox (sS nw0 q0 G h0)) i1) (qhs (PS.nox (sS nw0 q0 G h0)) (qhs (PS.nox (sS nw0 q1 G h1)) (qhs (PS.nox (sS nw0 q2 G h2)) i2)))
end
noncomputable def qe:List (Str × Addr):=[("join",118),("pay",119),("draw",120),("tie",121),("untie",122),("bet",123),("drop",124),("blanks",125),("strike",126)]
noncomputable def qy:List (Addr × List Str):=[(118,["name","number"]),(119,["name","number"]),(120,["name","number"]),(121,["name","name"]),(122,["name","name"]),(123,["name","name","number"]),(124,["name","name"]),(125,["number"]),(126,["number"])]
noncomputable def qk:Md:={ gs:=[("LETTERS",Sum.inr "abcdefghijklmnopqrstuvwxyz"),("FIGURES",Sum.inr "0123456789"),("MOST_LETTERS",Sum.inl 8),("MOST_FIGURES",Sum.inl 10)],ds:=[("FORMS",qe)],kt:=qy }
noncomputable abbrev qjw:CSL:=.cons (.ret (.ife (.cmp .In .non (.var 2)) .non (.var 2))) .nil
noncomputable abbrev qjx:CSL:=.cons (.set 2 (.lc false 2 (.tg (.cons (.nm 0) (.cons (.nm 1) .nil))) (.zipK qy (.cons (.var 0) (.cons (.var 1) .nil))) .yes (.call 0 (.cons (.var 0) (.cons (.var 1) .nil))))) qjw
noncomputable abbrev qco:CSL:=.cons (.sif (.cmp .NotEq (.bi .len (.cons (.var 1) .nil)) (.lenK qy (.cons (.var 0) .nil))) (.cons (.ret .non) .nil) .nil) qjx
noncomputable def qd3:List (Str × Nat × Nat):=[("thing_of",2,2)]
noncomputable def qg0:List Fd:=[qdb]
@[simp] theorem qve:qai qg0 qd3 0=qaz 2 qdb:=(rfl)
noncomputable def qao:Fd:=qcj (qaf qg0 qd3 qco) 1
noncomputable abbrev qnp:CSL:=.cons (.ret (.bi .tuple (.cons (.bin false .Add (.lst false (.cons (.ix (.var 1) (.int 0)) .nil)) (.var 2)) .nil))) .nil
noncomputable abbrev qnq:CSL:=.cons (.sif (.cmp .Is (.var 2) .non) (.cons .rse .nil) .nil) qnp
noncomputable abbrev qnr:CSL:=.cons (.set 2 (.call 0 (.cons (.itm "FORMS" qe (.ix (.var 1) (.int 0))) (.cons (.sl false (.var 1) (.at_ (.int 1)) .no) .nil)))) qnq
noncomputable abbrev qns:CSL:=.cons (.sif (.nin "FORMS" qe (.ix (.var 1) (.int 0))) (.cons .rse .nil) .nil) qnr
noncomputable abbrev qgk:CSL:=.cons (.set 1 (.mt .split (.var 0) (.cons (.str " ") .nil))) qns
noncomputable def qz:List (Str × Nat × Nat):=[("things_of",2,3)]
noncomputable def qaa:List Fd:=[qao]
@[simp] theorem qx8:qai qaa qz 0=qaz 2 qao:=(rfl)
noncomputable def qcp:CB:=(.nin "FORMS" qe (.ix (.var 1) (.int 0)))
noncomputable def qbw:CS:=(.set 1 (.mt .split (.var 0) (.cons (.str " ") .nil)))
noncomputable def qcq:CB:=(.cmp .Is (.var 2) .non)
noncomputable def qbx:CS:=(.set 2 (.call 0 (.cons (.itm "FORMS" qe (.ix (.var 1) (.int 0))) (.cons (.sl false (.var 1) (.at_ (.int 1)) .no) .nil))))
noncomputable def qby:CS:=(.sif (.nin "FORMS" qe (.ix (.var 1) (.int 0))) (.cons .rse .nil) .nil)
noncomputable def qer:CS:=(.set 1 (.mt .split (.var 0) (.cons (.str " ") .nil)))
noncomputable def qax:Env→Sto→Option Sto:=qr7 (qbd (evS qaa qz qbw) (qd2 (evB qaa qz qcp))) (qbd (evS qaa qz qer) (qbd (evS qaa qz qby) (qbd (evS qaa qz qbx) (qd2 (evB qaa qz qcq)))))
noncomputable def qc3:Fd:=qcj (qaf qaa qz qgk) 2
noncomputable abbrev qd4:CSL:=.cons (.ret (.and (.chain .LtE .LtE (.int 1) (.bi .len (.cons (.var 0) .nil)) (.int 8)) (.one (.bi .all (.cons (.lc false 1 (.nm 0) (.chars (.var 0)) .yes (.cmp .In (.var 0) (.str "abcdefghijklmnopqrstuvwxyz"))) .nil))))) .nil
noncomputable def qg1:List (Str × Nat × Nat):=[]
noncomputable def qnt:List Fd:=[]
noncomputable def qcr:Fd:=qcj (qaf qnt qg1 qd4) 0
noncomputable abbrev qcs:CSL:=.cons (.ret (.or (.cmp .Eq (.var 0) (.str "0")) (.one (.cmp .NotEq (.ix (.var 0) (.int 0)) (.str "0"))))) .nil
noncomputable abbrev qb4:CSL:=.cons (.sif (.or (.not (.chain .LtE .LtE (.int 1) (.bi .len (.cons (.var 0) .nil)) (.int 10))) (.one (.not (.tru (.bi .all (.cons (.lc false 1 (.nm 0) (.chars (.var 0)) .yes (.cmp .In (.var 0) (.str "0123456789"))) .nil)))))) (.cons (.ret (.bl false)) .nil) .nil) qcs
noncomputable def qbe:List (Str × Nat × Nat):=[]
noncomputable def qb5:List Fd:=[]
noncomputable def qbf:Fd:=qcj (qaf qb5 qbe qb4) 0
noncomputable abbrev qma:CSL:=.cons (.ex (.mt .append (.var 3) (.cons (.bi .int (.cons (.var 5) .nil)) .nil))) .nil
noncomputable abbrev qmb:CSL:=.cons (.sif (.and (.cmp .Eq (.ix (.var 2) (.var 4)) (.str "n")) (.one (.tru (.call 0 (.cons (.var 5) .nil))))) (.cons (.ex (.mt .append (.var 3) (.cons (.var 5) .nil))) .nil) (.cons (.ret .non) .nil)) .nil
noncomputable abbrev qmc:CSL:=.cons (.sif (.and (.cmp .Eq (.ix (.var 2) (.var 4)) (.str "c")) (.one (.tru (.call 1 (.cons (.var 5) .nil))))) qma qmb) .nil
noncomputable abbrev qmd:CSL:=.cons (.set 5 (.ix (.var 1) (.bin false .Add (.var 4) (.int 1)))) qmc
noncomputable abbrev qme:CSL:=.cons (.ret (.bi .tuple (.cons (.var 3) .nil))) .nil
noncomputable abbrev qmf:CSL:=.cons (.sfor (.nm 4) (.rng1 (.cons (.bi .len (.cons (.var 2) .nil)) .nil)) qmd) qme
noncomputable abbrev qfl:CSL:=.cons (.set 3 (.lst true (.cons (.ix (.var 1) (.int 0)) .nil))) qmf
noncomputable abbrev qmg:CSL:=.cons (.sif (.or (.cmp .Eq (.var 2) (.str "")) (.one (.cmp .NotEq (.bi .len (.cons (.var 1) .nil)) (.bin false .Add (.bi .len (.cons (.var 2) .nil)) (.int 1))))) (.cons (.ret .non) .nil) .nil) qfl
noncomputable abbrev qmh:CSL:=.cons (.set 2 (.dget [("join","nc"),("pay","nc"),("draw","nc"),("tie","nn"),("untie","nn"),("bet","nnc"),("drop","nn"),("blanks","c"),("strike","c")] "" (.ix (.var 1) (.int 0)))) qmg
noncomputable abbrev qdd:CSL:=.cons (.set 1 (.mt .split (.var 0) (.cons (.str " ") .nil))) qmh
noncomputable def qbr:List (Str × Nat × Nat):=[("_law_named",1,1),("_law_is_number",1,1)]
noncomputable def qch:List Fd:=[qcr,qbf]
@[simp] theorem qvt:qai qch qbr 0=qaz 1 qcr:=(rfl)
@[simp] theorem qvu:qai qch qbr 1=qaz 1 qbf:=(rfl)
noncomputable def qa5:Fd:=qcj (qaf qch qbr qdd) 5
noncomputable abbrev qnu:CSL:=.cons (.ret (.lst false (.cons (.var 2) (.cons (.ix (.var 1) (.int 0)) (.cons (.var 3) .nil))))) .nil
noncomputable abbrev qnv:CSL:=.cons (.ret (.bin false .Add (.lst false (.cons (.var 2) (.cons (.ix (.var 1) (.int 0)) (.cons (.ix (.var 1) (.int 1)) .nil)))) (.sl false (.lst false (.cons (.var 3) .nil)) .no (.at_ (.bi .int (.cons (.cmp .Eq (.var 2) (.str "bet")) .nil)))))) .nil
noncomputable abbrev qnw:CSL:=.cons (.sif (.cmp .In (.var 2) (.tup (.cons (.str "join") (.cons (.str "pay") (.cons (.str "draw") .nil))))) qnu .nil) qnv
noncomputable abbrev qnx:CSL:=.cons (.sif (.cmp .In (.var 2) (.tup (.cons (.str "blanks") (.cons (.str "strike") .nil)))) (.cons (.ret (.lst false (.cons (.var 2) (.cons (.var 3) .nil)))) .nil) .nil) qnw
noncomputable abbrev qny:CSL:=.cons (.set 3 (.bi .str (.cons (.ix (.lst false (.cons (.int 0) (.cons (.call 0 (.cons (.var 0) (.cons (.bin false .Pow (.int 10) (.int 10)) .nil))) (.cons (.call 0 (.cons (.var 0) (.cons (.int 30) .nil))) (.cons (.int 9999999999) .nil))))) (.call 0 (.cons (.var 0) (.cons (.int 4) .nil)))) .nil))) qnx
noncomputable abbrev qnz:CSL:=.cons (.set 2 (.ix (.lst false (.cons (.str "join") (.cons (.str "pay") (.cons (.str "draw") (.cons (.str "tie") (.cons (.str "untie") (.cons (.str "bet") (.cons (.str "drop") (.cons (.str "blanks") (.cons (.str "strike") .nil)))))))))) (.call 0 (.cons (.var 0) (.cons (.int 9) .nil))))) qny
noncomputable abbrev qgl:CSL:=.cons (.set 1 (.call 1 (.cons (.var 0) (.cons (.int 2) .nil)))) qnz
noncomputable def qef:List (Str × Nat × Nat):=[("_law_take",2,1),("_law_names",2,2)]
noncomputable def qgm:List Fd:=[qap,qcn]
@[simp] theorem qx9:qai qgm qef 0=qaz 2 qap:=(rfl)
@[simp] theorem qya:qai qgm qef 1=qaz 2 qcn:=(rfl)
noncomputable def qeg:Fd:=qcj (qaf qgm qef qgl) 3
noncomputable abbrev qix:CSL:=.cons (.ret (.bin false .Add (.sl false (.var 1) .no (.at_ (.var 3))) (.sl false (.var 1) (.at_ (.bin false .Add (.var 3) (.int 1))) .no))) .nil
noncomputable abbrev qiy:CSL:=.cons (.ret (.bin false .Add (.bin false .Add (.sl false (.var 1) .no (.at_ (.var 3))) (.lst false (.cons (.ix (.var 1) (.var 3)) .nil))) (.sl false (.var 1) (.at_ (.var 3)) .no))) .nil
noncomputable abbrev qiz:CSL:=.cons (.ret (.bin false .Add (.bin false .Add (.sl false (.var 1) .no (.at_ (.bin false .Add (.var 3) (.int 1)))) (.lst false (.cons (.str "") .nil))) (.sl false (.var 1) (.at_ (.bin false .Add (.var 3) (.int 1))) .no))) .nil
noncomputable abbrev qi0:CSL:=.cons (.ret (.bin false .Add (.bin false .Add (.sl false (.var 1) .no (.at_ (.var 3))) (.lst false (.cons (.ix (.var 5) (.call 0 (.cons (.var 0) (.cons (.int 5) .nil)))) .nil))) (.sl false (.var 1) (.at_ (.bin false .Add (.var 3) (.int 1))) .no))) .nil
noncomputable abbrev qi1:CSL:=.cons (.set 5 (.lst false (.cons (.bin false .Add (.str "0") (.var 4)) (.cons (.bin false .Add (.var 4) (.str "a")) (.cons (.bin false .Add (.var 4) (.str "0")) (.cons (.bin false .Add (.str "-") (.var 4)) (.cons (.bin false .Mult (.var 4) (.int 3)) .nil))))))) qi0
noncomputable abbrev qi2:CSL:=.cons (.set 4 (.ix (.var 1) (.var 3))) qi1
noncomputable abbrev qi3:CSL:=.cons (.ret (.bin false .Add (.bin false .Add (.sl false (.var 1) .no (.at_ (.var 3))) (.lst false (.cons (.var 9) .nil))) (.sl false (.var 1) (.at_ (.bin false .Add (.var 3) (.int 1))) .no))) .nil
noncomputable abbrev qi4:CSL:=.cons (.set 9 (.bin false .Add (.bin false .Add (.sl false (.ix (.var 1) (.var 3)) .no (.at_ (.var 8))) (.var 7)) (.sl false (.ix (.var 1) (.var 3)) (.at_ (.bin false .Add (.var 8) (.bin false .Mod (.var 2) (.int 2)))) .no))) qi3
noncomputable abbrev qi5:CSL:=.cons (.set 8 (.call 0 (.cons (.var 0) (.cons (.bin false .Add (.bi .len (.cons (.ix (.var 1) (.var 3)) .nil)) (.int 1)) .nil)))) qi4
noncomputable abbrev qi6:CSL:=.cons (.set 7 (.ix (.var 6) (.call 0 (.cons (.var 0) (.cons (.bi .len (.cons (.var 6) .nil)) .nil))))) qi5
noncomputable abbrev qhb:CSL:=.cons (.set 6 (.str " !\"#$&'()*+,-./0123456789:;<=>?@ABCDEFGHIJKLMNOPQRSTUVWXYZ[\\]^_`abcdefghijklmnopqrstuvwxyz{|}~\n")) qi6
noncomputable abbrev qhc:CSL:=.cons (.sif (.cmp .Eq (.var 2) (.int 3)) qi2 .nil) qhb
noncomputable abbrev qhd:CSL:=.cons (.sif (.cmp .Eq (.var 2) (.int 2)) qiz .nil) qhc
noncomputable abbrev qhe:CSL:=.cons (.sif (.cmp .Eq (.var 2) (.int 1)) qiy .nil) qhd
noncomputable abbrev qhf:CSL:=.cons (.sif (.and (.cmp .Eq (.var 2) (.int 0)) (.one (.cmp .Gt (.bi .len (.cons (.var 1) .nil)) (.int 1)))) qix .nil) qhe
noncomputable abbrev qhg:CSL:=.cons (.set 3 (.call 0 (.cons (.var 0) (.cons (.bi .len (.cons (.var 1) .nil)) .nil)))) qhf
noncomputable abbrev qde:CSL:=.cons (.set 2 (.call 0 (.cons (.var 0) (.cons (.int 7) .nil)))) qhg
noncomputable def qdf:List (Str × Nat × Nat):=[("_law_take",2,1)]
noncomputable def qfm:List Fd:=[qap]
@[simp] theorem qsn:qai qfm qdf 0=qaz 2 qap:=(rfl)
noncomputable def qb9:Fd:=qcj (qaf qfm qdf qde) 8
noncomputable abbrev qaq:CSL:=.cons (.set 1 (.call 0 (.cons (.var 0) .nil))) .nil
noncomputable abbrev qm:CSL:=.cons (.ret (.tup (.cons (.var 1) (.cons (.var 2) .nil)))) .nil
noncomputable def qc:List (Str × Nat × Nat):=[("deed_of",1,4)]
noncomputable def qd:List Fd:=[qc3]
@[simp] theorem qn0:qai qd qc 0=qaz 1 qc3:=(rfl)
noncomputable def qv:CS:=(.set 1 .non)
noncomputable def qw:CS:=(.set 2 (.lst false .nil))
noncomputable def qa0:CL:=(.cons (.var 0) .nil)
noncomputable def qu:MS:=qpv 1 2 (evA qd qc qa0) qax 3 2 [.bl true,.bl false,.bl false] (qaf qd qc qaq)
noncomputable def ql:Fd:=qcj (seqS (evS qd qc qv) (seqS (evS qd qc qw) (seqS qu (qaf qd qc qm)))) 3
noncomputable abbrev qn1:CSL:=.cons (.set 6 (.tup (.cons .non (.cons (.lst false (.cons (.bl true) (.cons (.bl false) (.cons (.bl false) .nil)))) .nil)))) .nil
noncomputable abbrev qn2:CSL:=.cons (.sif (.not (.tru (.call 1 (.cons (.call 5 (.cons (.var 5) .nil)) (.cons (.var 6) .nil))))) (.cons (.ret (.bl false)) .nil) .nil) .nil
noncomputable abbrev qn3:CSL:=.cons (.sif (.cmp .Is (.ix (.var 6) (.int 0)) .non) qn1 .nil) qn2
noncomputable abbrev qn4:CSL:=.cons (.set 6 (.tup (.cons (.call 2 (.cons (.var 5) .nil)) (.cons (.lst false .nil) .nil)))) qn3
noncomputable abbrev qn5:CSL:=.cons (.set 5 (.mt .join (.str " ") (.cons (.var 3) .nil))) qn4
noncomputable abbrev qn6:CSL:=.cons (.sfor (.nm 4) (.rng1 (.cons (.call 0 (.cons (.var 1) (.cons (.int 3) .nil))) .nil)) (.cons (.set 3 (.call 4 (.cons (.var 1) (.cons (.var 3) .nil)))) .nil)) qn5
noncomputable abbrev qn7:CSL:=.cons (.set 3 (.call 3 (.cons (.var 1) .nil))) qn6
noncomputable abbrev qn8:CSL:=.cons (.ret (.bl true)) .nil
noncomputable abbrev qn9:CSL:=.cons (.sfor (.nm 2) (.rng1 (.cons (.int 3) .nil)) qn7) qn8
noncomputable abbrev qeh:CSL:=.cons (.sif (.not (.tru (.call 1 (.cons (.call 5 (.cons (.str "") .nil)) (.cons (.tup (.cons .non (.cons (.lst false (.cons (.bl true) (.cons (.bl false) (.cons (.bl false) .nil)))) .nil))) .nil))))) (.cons (.ret (.bl false)) .nil) .nil) qn9
noncomputable def qa6:List (Str × Nat × Nat):=[("_law_take",2,1),("_law_same",2,6),("_law_read",1,2),("_law_row",1,3),("_law_spoilt",2,2),("_law_told_of_row",1,5)]
noncomputable def qbo:List Fd:=[qap,qo 5,qa5,qeg,qb9,ql]
@[simp] theorem qyb:qai qbo qa6 0=qaz 2 qap:=(rfl)
@[simp] theorem qyc:qai qbo qa6 1=qaz 2 (qo 5):=(rfl)
@[simp] theorem qyd:qai qbo qa6 2=qaz 1 qa5:=(rfl)
@[simp] theorem qye:qai qbo qa6 3=qaz 1 qeg:=(rfl)
@[simp] theorem qyf:qai qbo qa6 4=qaz 2 qb9:=(rfl)
@[simp] theorem qyg:qai qbo qa6 5=qaz 1 ql:=(rfl)
noncomputable def jn (c:Nat):List (List Nat)→List Nat
 | []=>[]
 | [a]=>a
 | a::b::r=>a++c::jn c (b::r)
theorem qei (x y:Str):(x++y).cps.toList=x.cps.toList++y.cps.toList:=by
 show (x.cps++y.cps).toList=_
 simp
theorem qi7 (c:Nat):∀ ws:List Str,(Str.join ⟨#[c]⟩ ws).cps.toList=jn c (ws.map fun x=>x.cps.toList)
 | []=>rfl
 | [a]=>rfl
 | a::b::r=>by
   have e:Str.join ⟨#[c]⟩ (a::b::r)=a++⟨#[c]⟩++Str.join ⟨#[c]⟩ (b::r):=rfl
   rw[e,qei,qei,qi7 c (b::r)]
   simp [jn]
theorem blank:(" ":Str)=⟨#[32]⟩:=by decide +kernel
theorem qoa {c:Nat}:∀ ws:List Str,(Str.join ⟨#[c]⟩ ws).length≤(ws.map (·.length)).sum+ws.length
 | []=>Nat.le_of_eq rfl
 | [a]=>by simp [Str.join]
 | a::b::r=>by
   have e:Str.join ⟨#[c]⟩ (a::b::r)=a++⟨#[c]⟩++Str.join ⟨#[c]⟩ (b::r):=rfl
   have l:∀ x y:Str,(x++y).length=x.length+y.length:=fun x y=>by show (x.cps++y.cps).size=_;simp [Str.length]
   have:=qoa (c:=c) (b::r)
   rw[e,l,l]
   simp [Str.length]at this ⊢
   omega
theorem q2g:("abcdefghijklmnopqrstuvwxyz":Str).length=26:=by decide +kernel
theorem q5b:("0123456789":Str).length=10:=by decide +kernel
theorem atL:∀ k < 26,("abcdefghijklmnopqrstuvwxyz":Str).cps.toList[k]? =some (97+k):=by decide +kernel
structure Nm (x:Str):Prop where
 lo:1≤x.length
 hi:x.length≤8
 sg:∀ c ∈ x.cps.toList,97≤c∧c≤122
noncomputable def qjy (n:Int):Str:=Str.ofString (toString n)
structure Nu (n:Int):Prop where
 lo:0≤n
 hi:n < 10 ^ 10
theorem q7h:∀ d:Nat,d < 10→0 < d→(Nat.digitChar d).toNat ≠ 48:=by decide
theorem qvf (m:Nat):0 < m→∃ c r,(Nat.toDigits 10 m).map Char.toNat=c::r∧c ≠ 48:=by
 induction m using Nat.strongRecOn with
 | _ m ih =>
   intro h0
   by_cases h:m < 10
   · rw[Nat.toDigits_of_lt_base h]
     exact⟨_,[],rfl,q7h m h h0⟩
   · have t:Nat.toDigits 10 (m / 10)++Nat.toDigits 10 (m % 10)=Nat.toDigits 10 (10 * (m / 10)+m % 10):=Nat.toDigits_append_toDigits (by decide) (by omega) (by omega)
     rw[Nat.div_add_mod]at t
     obtain ⟨c,r,e,hc⟩:=ih (m / 10) (by omega) (by omega)
     rw[← t,List.map_append,e]
     exact⟨c,_,rfl,hc⟩
theorem Nu.signs {n:Int} (h:Nu n):∀ c ∈ (qjy n).cps.toList,48≤c∧c≤57:=by
 obtain ⟨m,rfl⟩:=Int.eq_ofNat_of_zero_le h.lo
 intro c hc
 unfold qjy at hc
 rw[PySem.W.KIN.signs_num]at hc
 obtain ⟨ch,hch,rfl⟩:=List.mem_map.mp hc
 exact digit_range (Nat.isDigit_of_mem_toDigits (by decide) (by decide) hch)
theorem Nu.len {n:Int} (h:Nu n):1≤(qjy n).length∧(qjy n).length≤10:=by
 refine⟨?_,PySem.W.KT.len_num h.lo h.hi⟩
 obtain ⟨m,rfl⟩:=Int.eq_ofNat_of_zero_le h.lo
 have e:=PySem.W.KIN.signs_num m
 have:(qjy m).length=((Nat.toDigits 10 m).map Char.toNat).length:=by rw[← e];simp [qjy,Str.length]
 rw[this]
 by_cases z:m=0
 · subst z;decide
 · obtain ⟨c,r,e2,_⟩:=qvf m (by omega)
   rw[e2];simp
@[simp] theorem q7i {i:Int}:qud (Sum.inl i)=.int i:=(rfl)
@[simp] theorem q7j {x:Str}:qud (Sum.inr x)=.str x:=(rfl)
section
variable {S:Sto} {x y:Str} {P:D→Sto→Prop}
theorem len_str (h:x.length≤1000):biF .len [.str x] S=.ok (.int x.length) S:=by
 show (if sizeOk x.length then M.pure (D.int x.length)else M.fail) S=_
 rw[if_pos (qal h)];rfl
theorem qfn (h:∀ c ∈ x.cps.toList,c < 128):qea (.str x) S=.ok (x.cps.toList.map fun c=>.str ⟨#[c]⟩,[]) S:=by
 show (if x.cps.all (· < 128)then M.pure (x.cps.toList.map fun c=>D.str ⟨#[c]⟩,[])else M.fail) S=_
 rw[if_pos]
 · rfl
 · rw[← Array.all_toList]
   exact List.all_eq_true.mpr fun c hc=>decide_eq_true (h c hc)
theorem qbg:qa2 .Eq (.str x) (.str y) S=.ok (.bl (decide (x=y))) S:=by
 show Out.ok (D.bl (false != decide (x=y))) S=_
 simp
theorem qyh:qa2 .NotEq (.str x) (.str y) S=.ok (.bl (!decide (x=y))) S:=by
 show Out.ok (D.bl (true != decide (x=y))) S=_
 simp
theorem qyi {z:Str} {c:Nat} {r:List Nat} (h:z.cps.toList=c::r) (hz:z.length≤1000):ixM (.str z) (.int 0) S=.ok (.str ⟨#[c]⟩) S:=by
 show (match atI z.cps.toList 0 with | some c=>if sizeOk z.length then M.pure (D.str ⟨#[c]⟩)else M.fail | none=>M.fail) S=_
 rw[h,show atI (c::r) 0=some c from qbt (j:=0) rfl]
 show (if sizeOk z.length then M.pure (D.str ⟨#[c]⟩)else M.fail) S=_
 rw[if_pos (qal hz)];rfl
inductive Part where
 | nm (x:Str) | nu (n:Int)
noncomputable def Part.tx:Part→Str
 | .nm x=>x
 | .nu n=>qjy n
noncomputable def Part.d:Part→D
 | .nm x=>.str x
 | .nu n=>.int n
theorem nn:decide (("name":Str)="number")=false:=by decide +kernel
theorem q7k {a:D} {xs:List D}:cutD (a::xs) (some 1) none=xs:=by
 have e:HT.sIx (a::xs).length 0 (some 1)=1:=by
   simp [HT.sIx]
 have e2:HT.sIx (a::xs).length (a::xs).length none=xs.length+1:=by simp [HT.sIx]
 unfold cutD
 rw[e,e2]
 simp
noncomputable def Part.wr:Part→Prop
 | .nm x=>x.length≤20
 | .nu n=>Nu n
theorem qvg {p:Part} (h:p.wr):biF .str [p.d] S=.ok (.str p.tx) S:=by
 cases p with
 | nm x=>rfl
 | nu n =>
   have h:Nu n:=h
   show (if decide (n.natAbs.log2 < 1920)then M.pure (D.str (toString n))else M.fail) S=_
   rw[if_pos (decide_eq_true ?_)]
   · rfl
   · by_cases z:n.natAbs=0
     · rw[z];decide
     · rw[Nat.log2_lt z]
       have h1:=h.lo
       have h2:=h.hi
       have:n.natAbs < 10 ^ 10:=by omega
       exact Nat.lt_trans this (by decide +kernel)
theorem strs_map:∀ ws:List Str,strsOf (ws.map D.str)=some ws
 | []=>rfl
 | w::ws=>by rw[List.map_cons,strsOf,strs_map ws];rfl
theorem qqu {z:Str} {ws:List Str} {l:D} (hl:D.lst (ws.map D.str)=l) (h:(ws.map (·.length)).sum+ws.length * z.length≤16777216):mtF .join (.str z) [l] S=.ok (.str (Str.join z ws)) S:=by
 subst hl
 show (match strsOf (ws.map D.str)with | some ys=>(if decide ((ys.map fun y:Str=>y.length).sum+ys.length * z.length≤16777216)then M.pure (D.str (PySem.Txt.join z ys))else M.fail) S | none=>.no)=_
 rw[strs_map]
 show (if decide ((ws.map (·.length)).sum+ws.length * z.length≤16777216)then M.pure (D.str (PySem.Txt.join z ws))else M.fail) S=_
 rw[if_pos (decide_eq_true h),show PySem.Txt.join z ws=Str.join z ws from StrLaws.glued_eq_join z ws]
 rfl
theorem same_str {m:Nat} (k:P (.bl true) S):Ok (qo (m+1) [.str x,.str x] S) P:=by
 unfold qo
 refine Ok.run ?_
 unfold qbi
 have i1:∀ (b:Str) S,biF .isi [.str b,.ty "list"] S=.ok (.bl false) S:=fun _ _=>rfl
 have i2:∀ (b:Str) S,biF .isi [.str b,.ty "tuple"] S=.ok (.bl false) S:=fun _ _=>rfl
 have i3:∀ (b:Str) S,biF .isi [.str b,.ty "bool"] S=.ok (.bl false) S:=fun _ _=>rfl
 have i4:∀ (b:Str) S,biF .isi [.str b,.ty "int"] S=.ok (.bl false) S:=fun _ _=>rfl
 have i5:∀ (b:Str) S,biF .isi [.str b,.ty "str"] S=.ok (.bl true) S:=fun _ _=>rfl
 have i6:∀ (b:Str) S,qa2 .Is (.str b) .non S=.ok (.bl false) S:=fun _ _=>rfl
 ((try simp);rw[qa];try simp [i1,i2])
 ((try simp);rw[qa];try simp [i6])
 ((try simp);rw[qa];try simp [i3,i4,qnn])
 ((try simp);rw[qa];try simp [i5,qu1])
 rw[qbg]
 simpa using k
end
noncomputable abbrev qjz:Str:="abcdefghijklmnopqrstuvwxyz"
noncomputable def qd5 (m:Int):Str:=⟨#[97+m.toNat]⟩
theorem qr8 {m:Int} {S:Sto} (h0:0≤m) (h1:m < 26):ixM (.str qjz) (.int m) S=.ok (.str (qd5 m)) S:=by
 show (match atI qjz.cps.toList m with | some c=>if sizeOk qjz.length then M.pure (D.str ⟨#[c]⟩)else M.fail | none=>M.fail) S=_
 obtain ⟨j,rfl⟩:=Int.eq_ofNat_of_zero_le h0
 rw[show atI qjz.cps.toList (j:Int)=some (97+j) from qbt (atL j (by omega))]
 show (if sizeOk qjz.length then M.pure (D.str ⟨#[97+j]⟩)else M.fail) S=_
 rw[if_pos (qal (by rw[q2g];decide))];rfl
theorem qr9:("":Str)=⟨#[]⟩:=by decide +kernel
theorem qob:∀ ws:List Str,(Str.join ⟨#[]⟩ ws).cps.toList=(ws.map fun x=>x.cps.toList).flatten
 | []=>rfl
 | [a]=>by simp [Str.join]
 | a::b::r=>by
   have e:Str.join ⟨#[]⟩ (a::b::r)=a++⟨#[]⟩++Str.join ⟨#[]⟩ (b::r):=rfl
   rw[e,qei,qei,qob (b::r)]
   simp
theorem qmi (ms:List Int):(Str.join ⟨#[]⟩ (ms.map qd5)).cps.toList=ms.map fun m=>97+m.toNat:=by
 rw[qob]
 induction ms with
 | nil=>rfl
 | cons m ms ih=>simp only [List.map_cons,List.flatten_cons,ih];rfl
theorem qyj {ms:List Int} (h1:1≤ms.length) (h2:ms.length≤8) (hb:∀ m ∈ ms,0≤m∧m < 26):Nm (Str.join "" (ms.map qd5)):=by
 rw[qr9]
 have e:=qmi ms
 have l:(Str.join ⟨#[]⟩ (ms.map qd5)).length=ms.length:=by
   have:=congrArg List.length e
   simpa [Str.length]using this
 refine⟨by omega,by omega,fun c hc=> ?_⟩
 rw[e]at hc
 obtain ⟨m,hm,rfl⟩:=List.mem_map.mp hc
 have:=hb m hm
 omega
theorem qmj {ms:List Int} {S:Sto} (h2:ms.length≤8):mtF .join (.str "") [.lst (ms.map fun m=>.str (qd5 m))] S=.ok (.str (Str.join "" (ms.map qd5))) S:=by
 refine qqu (by simp [Function.comp_def]) ?_
 have e:("":Str).length=0:=by decide +kernel
 have s:∀ ms:List Int,((ms.map qd5).map (·.length)).sum=ms.length:=by
   intro ms
   induction ms with
   | nil=>rfl
   | cons m ms ih=>simp only [List.map_cons,List.sum_cons,ih,List.length_cons];show 1+_=_;omega
 rw[e,s]
 omega
structure qhu (ms:List Int):Prop where
 all:∀ m ∈ ms,0≤m∧m < 26
theorem qoc {c:Cell} {S:Sto} {n:Nat} {Γ:Env} {Q:List D→Sto→Prop} (hc:qdk c)
   (k:∀ ms c',ms.length=n→qhu ms→qdk c'→Q (ms.map D.int) (c'::S)) :
   Ok (lcA [] 1 (evG qa4 qat (.nm 0)) (evF qa4 qat .yes) (evE qa4 qat (.call 0 (.cons (.var 1) (.cons (.int 26) .nil)))) (some (.ref 0)::Γ) [] (vec n fun i=>.int i) (c::S)) Q:=by
 refine qpn (fun i a S'=>∃ ms c',S'=c'::S∧qdk c'∧a=ms.map D.int∧ms.length=i∧qhu ms) ⟨[],c,rfl,hc,rfl,rfl,⟨by simp⟩⟩ (fun i a S' _=>qb2) (fun i d a S' hd h=> ?_) fun a S' h=> ?_
 · obtain ⟨ms,c',rfl,hc',rfl,hl,hm⟩:=h
   simp
   refine qav hc' (by decide) (by decide) fun r c1 r0 r1 hc1=> ?_
   exact⟨ms++[r],c1,rfl,hc1,by simp,by simp [hl],⟨fun m h=>by
     rcases List.mem_append.mp h with z | z
     · exact hm.all m z
     · rw[List.mem_singleton.mp z];exact⟨r0,r1⟩⟩⟩
 · obtain ⟨ms,c',rfl,hc',rfl,hl,hm⟩:=h
   exact k ms c' (by simpa using hl) hm hc'
theorem qyk {S:Sto} {R:Fl × Env→Sto→Prop} {b many sz al:Option D} {q r:Nat} {xs:List Str} {ns fs:List Int} {p:Nat} {i:Int} (hr:S[r]? =some (.lst (xs.map D.str))) (hq:S[q]? =some (.lst (ns.map D.int))) (hne:q ≠ r) (hxs:xs.length≤10)
   (hp:p < ns.length) (hl:ns.length≤8) (hn:qhu ns) (hpf:p < fs.length) (k:∀ x S',Nm x→S'=(S.set q (.lst ((ns.map D.int).set p (.int ((fs.getD p 0+11 * i) % 26))))).set r (.lst (xs.map D.str++[.str x]))→R (.nx,[b,many,some (.str qjz),sz,some (.int p),al,some (.lst (fs.map D.int)),some (.ref r),some (.int i),some (.ref q)]) S') :
   Ok (qaf qa4 qat qbv [b,many,some (.str qjz),sz,some (.int p),al,some (.lst (fs.map D.int)),some (.ref r),some (.int i),some (.ref q)] S) R:=by
 unfold qbv
 have e1:∀ S,ixM (.lst (fs.map D.int)) (.int p) S=.ok (.int (fs.getD p 0)) S:=fun S=>by
   rw[qlu,show atI (fs.map D.int) (p:Int)=some (.int (fs.getD p 0)) from qbt (by simp [hpf])]
 obtain ⟨v,hv⟩:∃ v,v=(fs.getD p 0+11 * i) % 26:=⟨_,rfl⟩
 have v0:0≤v∧v < 26:=by omega
 rw[← hv]at k
 obtain ⟨ms,hms⟩:∃ ms:List Int,ms=ns.set p v:=⟨_,rfl⟩
 have hset:(ns.map D.int).set p (.int v)=ms.map D.int:=by rw[hms,List.map_set]
 rw[hset]at k
 have hm:∀ m ∈ ms,0≤m∧m < 26:=fun m h=>by
   rw[hms]at h
   rcases List.mem_or_eq_of_mem_set h with z | z
   · exact hn.all m z
   · rw[z];exact v0
 have hml:ms.length=ns.length:=by rw[hms,List.length_set]
 generalize hfs:D.lst (fs.map D.int)=fd at *
 have lf:∀ S,look fd S=fd:=fun S=>by subst hfs;rfl
 ((try simp);rw[qa];try simp [lf,e1])
 rw[qup (q41 (by decide) (by decide))]
 simp
 rw[qkr (by decide)]
 simp
 rw[show (fs[p]?.getD 0+11 * i) % 26=v by rw[hv];simp]
 rw[qxj hq (j:=p) (by rw[List.length_map];exact qxk hp),hset]
 simp
 have hr1:(S.set q (.lst (ms.map D.int)))[r]? =some (.lst (xs.map D.str)):=by rw[List.getElem?_set_ne hne];exact hr
 have hq1:(S.set q (.lst (ms.map D.int)))[q]? =some (.lst (ms.map D.int)):=List.getElem?_set_self (List.getElem?_eq_some_iff.mp hq).1
 generalize S.set q (.lst (ms.map D.int))=S1 at hr1 hq1 k ⊢
 ((try simp);rw[qa];try simp [qlt hr1])
 have e2:qa3 (.ref q) S1=.ok (ms.map D.int,[(q,.lst (ms.map D.int))]) S1:=by unfold qa3;dsimp only;rw[hq1]
 refine⟨rfl,?_⟩
 rw[e2]
 simp
 refine⟨qbc (by omega),qcg (l:=ms) (e:=D.int) (g:=fun m=>.str (qd5 m)) (fun z hz=>by rw[List.mem_singleton.mp hz];exact hq1) (fun m h=> ?_) ?_⟩
 · simp
   rw[qr8 (hm m h).1 (hm m h).2]
   simp
 · rw[qmj (by omega)]
   simp
   rw[qut hr1 (by simp;omega)]
   simp
   exact k _ _ (qyj (by omega) (by omega) hm) rfl
theorem qsa {x:Str}:Still (.str x):=fun n S=>by cases n <;> simp [frz]
set_option maxHeartbeats 2000000 in
theorem qvh {c:Cell} {S:Sto} {P:D→Sto→Prop} {m:D} (hm:D.int 2=m) (hc:qdk c) (k:∀ x y c' T,Nm x→Nm y→qdk c'→P (.lst [.str x,.str y]) (c'::T)):Ok (qcn [.ref 0,m] (c::S)) P:=by
 refine Ok.run ?_
 unfold qd1
 ((try simp);rw[qa];try simp)
 ((try simp);rw[qa];try simp)
 refine qav hc (by decide) (by decide) fun s0 c1 a1 b1 hc1=> ?_
 simp
 obtain ⟨sz,hsz⟩:∃ sz:Nat,(1+s0:Int)=sz:=⟨(1+s0).toNat,by omega⟩
 rw[hsz]
 ((try simp);rw[qa];try simp)
 refine qav hc1 (by omega) (by omega) fun p0 c2 a2 b2 hc2=> ?_
 obtain ⟨p,rfl⟩:=Int.eq_ofNat_of_zero_le a2
 ((try simp);rw[qa];try simp)
 refine qav hc2 (by decide) (by decide) fun al c3 a3 b3 hc3=> ?_
 ((try simp);rw[qa];try simp)
 rw[qed (qhq (show sz≤20 by omega)),qee]
 simp
 refine⟨qbc (by omega),qoc hc3 fun fs c4 hfl hfs hc4=> ?_⟩
 ((try simp);rw[qa];try simp)
 have hS:(S++[Cell.lst []])[S.length]? =some (.lst (([]:List Str).map D.str)):=by simp
 generalize S++[Cell.lst []]=T0 at hS ⊢
 generalize S.length=l at hS ⊢
 rw[qa]
 simp
 rw[← hm,qed (show qih 2=true by decide),show ((2:Int).toNat)=2 from rfl,qee]
 simp
 obtain ⟨J,hJ⟩:∃ J:Nat→Env→Sto→Prop,∀ i Γ S',J i Γ S'↔(∃ (c':Cell) (T:Sto) (v8 v9:Option D) (xs:List Str),S'=c'::T∧qdk c'∧Γ=[some (.ref 0),some (.int 2),some (.str qjz),some (.int sz),some (.int p),some (.bl (al==0)),some (.lst (fs.map D.int)),some (.ref (l+1)),v8,v9]∧T[l]? =some (.lst (xs.map D.str))∧xs.length=i∧∀ x ∈ xs,Nm x):=⟨_,fun _ _ _=>Iff.rfl⟩
 refine qhp (Iv:=J) ((hJ _ _ _).mpr
   ⟨c4,T0,none,none,[],rfl,hc4,rfl,hS,rfl,by simp⟩) (fun i Γ S' _=>qb2) (fun i d Γ S' hd h=> ?_) fun Γ S' h=> ?_
 · obtain ⟨c',T,v8,v9,xs,rfl,hc',rfl,hT,hxl,hxs⟩:=(hJ _ _ _).mp h
   have hi:i < 2:=by have:=(List.getElem?_eq_some_iff.mp hd).1;simpa using this
   rw[qgj hi]at hd
   cases hd
   have fin:∀ (c5:Cell) (T5:Sto) (q:Nat) (ns:List Int) (R:Fl × Env→Sto→Prop),qdk c5→T5[l]? =some (.lst (xs.map D.str))→T5[q]? =some (.lst (ns.map D.int))→q ≠ l→p < ns.length→ns.length≤8→qhu ns→(∀ (c':Cell) (T:Sto) (v8 v9:Option D) (xs:List Str),qdk c'→T[l]? =some (.lst (xs.map D.str))→xs.length=i+1→(∀ x ∈ xs,Nm x)→R (.nx,[some (.ref 0),some (.int 2),some (.str qjz),some (.int sz),some (.int p),some (.bl (al==0)),some (.lst (fs.map D.int)),some (.ref (l+1)),v8,v9]) (c'::T)) →
       Ok (qaf qa4 qat qbv [some (.ref 0),some (.int 2),some (.str qjz),some (.int sz),some (.int p),some (.bl (al==0)),some (.lst (fs.map D.int)),some (.ref (l+1)),some (.int i),some (.ref (q+1))] (c5::T5)) R:=by
     intro c5 T5 q ns R hc5 h1 h2 hne hp hl hn kk
     refine qyk (xs:=xs) (ns:=ns) (by simpa using h1) (by simpa using h2) (by omega) (by omega) hp hl hn (by omega) fun x S' hx e=> ?_
     rw[e]
     simp only [List.set_cons_succ]
     refine kk _ _ _ _ (xs++[x]) hc5 ?_ (by simp [hxl]) fun z hz=> ?_
     · rw[List.getElem?_set_self (by rw[List.length_set];exact(List.getElem?_eq_some_iff.mp h1).1)];simp
     · rcases List.mem_append.mp hz with z1 | z1
       · exact hxs z z1
       · rw[List.mem_singleton.mp z1];exact hx
   have hTl:=(List.getElem?_eq_some_iff.mp hT).1
   simp
   rw[qa]
   simp
   rw[quw]
   simp
   rw[qa]
   simp
   refine qdj (fun ha=> ?_) fun ha=> ?_
   · refine fin c' (T++[.lst (fs.map D.int)]) T.length fs _ hc' (by rw[List.getElem?_append_left hTl];exact hT) (by simp) (by omega) (by omega) (by omega) hfs fun c' T v8 v9 xs h1 h2 h3 h4=> ?_
     exact(hJ _ _ _).mpr ⟨c',T,v8,v9,xs,rfl,h1,rfl,h2,h3,h4⟩
   · rw[qa]
     simp
     refine qav hc' (by omega) (by omega) fun r c5 r0 r1 hc5=> ?_
     obtain ⟨n,hn⟩:∃ n:Nat,(p+1+r:Int)=n:=⟨(p+1+r).toNat,by omega⟩
     simp
     rw[hn,qed (qhq (show n≤20 by omega)),qee]
     simp
     refine⟨qbc (by omega),qoc hc5 fun ns c6 hnl hns hc6=> ?_⟩
     simp
     refine fin c6 (T++[.lst (fs.map D.int),.lst (ns.map D.int)]) (T.length+1) ns _ hc6 (by rw[List.getElem?_append_left hTl];exact hT) (by rw[List.getElem?_append_right (by omega)];simp) (by omega) (by omega) (by omega) hns fun c' T v8 v9 xs h1 h2 h3 h4=> ?_
     exact(hJ _ _ _).mpr ⟨c',T,v8,v9,xs,rfl,h1,rfl,h2,h3,h4⟩
 · obtain ⟨c',T,v8,v9,xs,rfl,hc',rfl,hT,hxl,hxs⟩:=(hJ _ _ _).mp h
   have hxl:xs.length=2:=by simpa using hxl
   simp
   rw[qa]
   simp
   rw[qxl (xs:=xs.map D.str) (by simpa using hT) (fun d hd=>by obtain ⟨z,_,rfl⟩:=List.mem_map.mp hd;exact qsa)]
   simp
   match xs,hxl with
   | [x,y],_=>exact k x y _ _ (hxs x (by simp)) (hxs y (by simp)) hc'
noncomputable def ltr (c:Nat):Bool:=decide (97≤c) && decide (c≤122)
noncomputable def fig (c:Nat):Bool:=decide (48≤c) && decide (c≤57)
theorem q5c:∀ c < 128,(Builtin.Str.occurrences "abcdefghijklmnopqrstuvwxyz" ⟨#[c]⟩ 0 26 1).isEmpty= !ltr c:=by decide +kernel
theorem q5d:∀ c < 128,(Builtin.Str.occurrences "0123456789" ⟨#[c]⟩ 0 10 1).isEmpty= !fig c:=by decide +kernel
structure Asc (x:Str):Prop where
 sg:∀ c ∈ x.cps.toList,c < 128
 ln:x.length≤1000
noncomputable def qes (x:Str):Bool:=decide (1≤x.length) && decide (x.length≤8) && x.cps.toList.all ltr
noncomputable def qfo (x:Str):Bool:=decide (1≤x.length) && decide (x.length≤10) && x.cps.toList.all fig && (decide (x="0") || decide (x.cps.toList.head? ≠ some 48))
section
variable {S:Sto} {x y:Str} {P:D→Sto→Prop}
theorem qfp {c:Nat} {b:Bool} (h:(Builtin.Str.occurrences y ⟨#[c]⟩ 0 y.length 1).isEmpty= !b):qa2 .In (.str ⟨#[c]⟩) (.str y) S=.ok (.bl b) S:=by
 show Out.ok (D.bl (false != !(Builtin.Str.occurrences y ⟨#[c]⟩ 0 y.length 1).isEmpty)) S=_
 rw[h];simp
theorem qfq (h:¬ (1≤x.length∧x.length≤8)):qes x=false:=by
 unfold qes
 cases e:x.cps.toList.all ltr <;> simp <;> omega
theorem qku (h1:1≤x.length) (h2:x.length≤8):qes x=x.cps.toList.all ltr:=by
 unfold qes
 rw[decide_eq_true h1,decide_eq_true h2];rfl
theorem qod (h:Asc x) (k:P (.bl (qes x)) S):Ok (qec [.str x] S) P:=by
 refine Ok.run ?_
 unfold qgi
 have hl:∀ S,biF .len [.str x] S=.ok (.int x.length) S:=fun S=>len_str h.ln
 ((try simp);rw[qa];try simp)
 rw[hl]
 simp
 refine qdj (fun h1=> ?_) fun h1=> ?_
 · refine qdj (fun h2=> ?_) fun h2=> ?_
   · rw[qfn h.sg]
     simp
     refine⟨qbc (by simp [Str.length]at h2;omega),qcg (l:=x.cps.toList) (e:=fun c=>.str ⟨#[c]⟩) (g:=fun c=>.bl (ltr c)) qb2 (fun c hc=> ?_) ?_⟩
     · simp
       rw[qfp (by rw[q2g];exact q5c c (h.sg c hc))]
       simp
     · rw[all_map]
       rw[qku (by omega) (by omega)]at k
       simpa using k
   · rw[qfq (by omega)]at k;exact k
 · rw[qfq (by omega)]at k;exact k
theorem qj0 (h:Asc x) (k:P (.bl (qes x)) S):Ok (qcr [.str x] S) P:=by
 refine Ok.run ?_
 unfold qd4
 have hl:∀ S,biF .len [.str x] S=.ok (.int x.length) S:=fun S=>len_str h.ln
 ((try simp);rw[qa];try simp)
 rw[hl]
 simp
 refine qdj (fun h1=> ?_) fun h1=> ?_
 · refine qdj (fun h2=> ?_) fun h2=> ?_
   · rw[qfn h.sg]
     simp
     refine⟨qbc (by simp [Str.length]at h2;omega),qcg (l:=x.cps.toList) (e:=fun c=>.str ⟨#[c]⟩) (g:=fun c=>.bl (ltr c)) qb2 (fun c hc=> ?_) ?_⟩
     · simp
       rw[qfp (by rw[q2g];exact q5c c (h.sg c hc))]
       simp
     · rw[all_map]
       rw[qku (by omega) (by omega)]at k
       simpa using k
   · rw[qfq (by omega)]at k;exact k
 · rw[qfq (by omega)]at k;exact k
theorem qhv (h:¬ (1≤x.length∧x.length≤10)):qfo x=false:=by
 unfold qfo
 cases e:x.cps.toList.all fig <;> simp <;> omega
theorem qoe (h1:1≤x.length) (h2:x.length≤10):qfo x=(x.cps.toList.all fig && (decide (x="0") || decide (x.cps.toList.head? ≠ some 48))):=by
 unfold qfo
 rw[decide_eq_true h1,decide_eq_true h2];rfl
theorem z0:("0":Str)=⟨#[48]⟩:=by decide +kernel
theorem qof (h:Asc x) (h1:1≤x.length):∃ c r,x.cps.toList=c::r∧(∀ S,ixM (.str x) (.int 0) S=.ok (.str ⟨#[c]⟩) S)∧(∀ S,qa2 .NotEq (.str ⟨#[c]⟩) (.str "0") S=.ok (.bl (decide (x.cps.toList.head? ≠ some 48))) S):=by
 cases e:x.cps.toList with
 | nil =>
   have:x.length=0:=by unfold Str.length;rw[← Array.length_toList,e];rfl
   omega
 | cons c r =>
   refine⟨c,r,rfl,fun S=>qyi e h.ln,fun S=> ?_⟩
   rw[qyh,z0]
   simp
theorem qj1 (h:Asc x) (k:P (.bl (qfo x)) S):Ok (qcm [.str x] S) P:=by
 refine Ok.run ?_
 unfold qd0
 have hl:∀ S,biF .len [.str x] S=.ok (.int x.length) S:=fun S=>len_str h.ln
 ((try simp);rw[qa];try simp)
 rw[hl]
 simp
 refine qdj (fun h1=> ?_) fun h1=> ?_
 · rw[qa]
   rw[qhv (by omega)]at k
   simpa using k
 rw[hl]
 simp
 refine qdj (fun h2=> ?_) fun h2=> ?_
 · rw[qa]
   rw[qhv (by omega)]at k
   simpa using k
 rw[qoe (by omega) (by omega)]at k
 ((try simp);rw[qa];try simp)
 rw[qfn h.sg]
 simp
 refine⟨qbc (by simp [Str.length]at h2;omega),qcg (l:=x.cps.toList) (e:=fun c=>.str ⟨#[c]⟩) (g:=fun c=>.bl (fig c)) qb2 (fun c hc=> ?_) ?_⟩
 · simp
   rw[qfp (by rw[q5b];exact q5d c (h.sg c hc))]
   simp
 rw[all_map]
 obtain ⟨c,r,e,e1,e2⟩:=qof h (by omega)
 cases ha:x.cps.toList.all fig with
 | false =>
   rw[ha]at k
   simp
   rw[qa]
   simpa using k
 | true =>
   rw[ha]at k
   simp
   ((try simp);rw[qa];try simp)
   rw[qbg]
   simp
   refine qdj (fun h0=> ?_) fun h0=> ?_
   · rw[decide_eq_true h0]at k;simpa using k
   · rw[e1]
     simp
     rw[e2]
     rw[decide_eq_false h0]at k
     simpa using k
theorem qfr (h:Asc x) (k:P (.bl (qfo x)) S):Ok (qbf [.str x] S) P:=by
 refine Ok.run ?_
 unfold qb4
 have hl:∀ S,biF .len [.str x] S=.ok (.int x.length) S:=fun S=>len_str h.ln
 ((try simp);rw[qa];try simp)
 rw[hl]
 simp
 have no:∀ P',(P'=fun (d:D) (S:Sto)=>P d S)→qfo x=false→Ok (qaf qb5 qbe (CSL.cons (CS.ret (CE.bl false)) CSL.nil) [some (D.str x)] S) (Go qb5 qbe qcs (Ret P)):=fun P' _ z=>by
   rw[qa]
   rw[z]at k
   simpa using k
 refine qdj (fun h1=> ?_) fun h1=>no _ rfl (qhv (by omega))
 refine qdj (fun h2=> ?_) fun h2=>no _ rfl (qhv (by omega))
 rw[qoe (by omega) (by omega)]at k
 rw[qfn h.sg]
 simp
 refine⟨qbc (by simp [Str.length]at h2;omega),qcg (l:=x.cps.toList) (e:=fun c=>.str ⟨#[c]⟩) (g:=fun c=>.bl (fig c)) qb2 (fun c hc=> ?_) ?_⟩
 · simp
   rw[qfp (by rw[q5b];exact q5d c (h.sg c hc))]
   simp
 rw[all_map]
 obtain ⟨c,r,e,e1,e2⟩:=qof h (by omega)
 cases ha:x.cps.toList.all fig with
 | false =>
   rw[ha]at k
   simp
   rw[qa]
   simpa using k
 | true =>
   rw[ha]at k
   simp
   ((try simp);rw[qa];try simp)
   rw[qbg]
   simp
   refine qdj (fun h0=> ?_) fun h0=> ?_
   · rw[decide_eq_true h0]at k;simpa using k
   · rw[e1]
     simp
     rw[e2]
     rw[decide_eq_false h0]at k
     simpa using k
noncomputable def qa7 (num:Bool) (w:Str):Option D:=if num then (if qfo w then some (.int ((intText? w).getD 0))else none)else if qes w then some (.str w)else none
noncomputable def kindS (num:Bool):Str:=if num then "number" else "name"
theorem qsb {num:Bool} (h:Asc x) (hi:qfo x=true→∀ S,biF .int [.str x] S=.ok (.int ((intText? x).getD 0)) S) (k:P ((qa7 num x).getD .non) S):Ok (qdb [.str (kindS num),.str x] S) P:=by
 refine Ok.run ?_
 unfold qe2
 cases num with
 | true =>
   simp only [kindS,qa7,if_true]at *
   ((try simp);rw[qa];try simp)
   rw[qbg]
   simp
   ((try simp);rw[qa];try simp)
   refine qj1 h ?_
   cases hn:qfo x with
   | true =>
     rw[hn]at k
     simp
     rw[hi hn]
     simpa using k
   | false =>
     rw[hn]at k
     simpa using k
 | false =>
   simp only [kindS,qa7]at *
   simp only [Bool.false_eq_true,if_false]at *
   ((try simp);rw[qa];try simp)
   rw[qbg,nn]
   simp
   ((try simp);rw[qa];try simp)
   rw[qbg]
   simp
   ((try simp);rw[qa];try simp)
   refine qod h ?_
   cases hn:qes x with
   | true =>
     rw[hn]at k
     simpa using k
   | false =>
     rw[hn]at k
     simpa using k
end
section
variable {S:Sto} {x y:Str} {P:D→Sto→Prop}
noncomputable def Reads (x:Str):Prop:=qfo x=true→∀ S,biF .int [.str x] S=.ok (.int ((intText? x).getD 0)) S
noncomputable abbrev BS:=Bool × Str
noncomputable def qak (p:BS):D:=(qa7 p.1 p.2).getD .non
noncomputable def qar (ps:List BS):Bool:=ps.all fun p=>(qa7 p.1 p.2).isSome
theorem qi8 (p:BS):qa7 p.1 p.2=none∨(∃ i,qa7 p.1 p.2=some (.int i))∨∃ z,qa7 p.1 p.2=some (.str z):=by
 unfold qa7
 cases p.1
 · cases qes p.2 <;> simp
 · cases qfo p.2 <;> simp
theorem qi9:∀ ps:List BS,qci .non (ps.map qak)=some (!qar ps)
 | []=>rfl
 | p ::ps=>by
   have ih:=qi9 ps
   rw[List.map_cons,qci,ih]
   unfold qar qak
   rw[List.all_cons]
   rcases qi8 p with e | ⟨i,e⟩ | ⟨z,e⟩
   · rw[e]
     have e1:eqD (D.non) .non=some true:=rfl
     have e2:(D.non).dep≤60:=by show 0≤60;decide
     simp [e1,e2]
   · rw[e]
     have e1:eqD (D.int i) .non=some false:=rfl
     have e2:(D.int i).dep≤60:=by show 0≤60;decide
     simp [e1,e2]
   · rw[e]
     have e1:eqD (D.str z) .non=some false:=rfl
     have e2:(D.str z).dep≤60:=by show 0≤60;decide
     simp [e1,e2]
theorem qkv:∀ ps:List BS,qcv ((ps.map fun p=>kindS p.1).map D.str) (ps.map fun p=>.str p.2)=ps.map fun p=>.tup [.str (kindS p.1),.str p.2]
 | []=>rfl
 | p::ps=>by simp only [List.map_cons,qcv];rw[qkv ps]
noncomputable def qdg (ps:List BS):D:=if qar ps then .lst (ps.map qak)else .non
theorem qpw {ps:List BS} {a:Addr} {ws:D} (hw:D.lst (ps.map fun p=>.str p.2)=ws) (ha:qfi qy a=some (ps.map fun p=>kindS p.1)) (h:∀ p ∈ ps,Asc p.2∧Reads p.2) (hl:ps.length≤10) (k:P (qdg ps) S):Ok (qao [.at_ a,ws] S) P:=by
 refine Ok.run ?_
 unfold qco
 have e1:∀ S,biF .len [ws] S=.ok (.int ps.length) S:=fun S=>by subst hw;simp
 have e2:∀ S,lenK qy [.at_ a] S=.ok (.int ps.length) S:=fun S=>by
   show (match qfi qy a with | some ks=>M.pure (D.int ks.length) | none=>M.fail) S=_
   rw[ha];simp [M.pure]
 have e3:∀ S,qgc qy [.at_ a,ws] S=.ok (ps.map fun p=>.tup [.str (kindS p.1),.str p.2],[]) S:=fun S=>by
   subst hw
   show (match qfi qy a with | some ks=>M.bind (qa3 (.lst (ps.map fun p:BS=>D.str p.2))) fun r'=>M.pure (qcv (ks.map D.str) r'.1,[]++r'.2) | none=>M.fail) S=_
   rw[ha]
   show Out.ok (qcv ((ps.map fun p=>kindS p.1).map D.str) (ps.map fun p=>D.str p.2),_) S=_
   rw[qkv];rfl
 ((try simp);rw[qa];try simp)
 rw[e1]
 simp
 rw[e2]
 simp
 ((try simp);rw[qa];try simp)
 rw[e3]
 simp
 refine⟨qbc (by omega),qcg (l:=ps) (e:=fun p=>.tup [.str (kindS p.1),.str p.2]) (g:=qak) qb2 (fun p hp=> ?_) ?_⟩
 · simp
   exact qsb (h p hp).1 (h p hp).2 ⟨rfl,rfl⟩
 · ((try simp);rw[qa];try simp)
   have e4:∀ S,qa2 .In .non (.lst (ps.map qak)) S=.ok (.bl (!qar ps)) S:=fun S=>by
     show (match qci .non (ps.map qak)with | some b=>M.pure (D.bl (false != b)) | none=>M.fail) S=_
     rw[qi9];simp [M.pure]
   rw[e4]
   unfold qdg at k
   cases hp:qar ps with
   | true=>rw[hp]at k;simpa using k
   | false=>rw[hp]at k;simpa using k
theorem qsc {ws:List Str} {ks:List Str} {a:Addr} {wd:D} (hw:D.lst (ws.map D.str)=wd) (ha:qfi qy a=some ks) (hn:ws.length ≠ ks.length) (k:P .non S):Ok (qao [.at_ a,wd] S) P:=by
 refine Ok.run ?_
 unfold qco
 have e1:∀ S,biF .len [wd] S=.ok (.int ws.length) S:=fun S=>by subst hw;simp
 have e2:∀ S,lenK qy [.at_ a] S=.ok (.int ks.length) S:=fun S=>by
   show (match qfi qy a with | some ks=>M.pure (D.int ks.length) | none=>M.fail) S=_
   rw[ha];simp [M.pure]
 ((try simp);rw[qa];try simp)
 rw[e1]
 simp
 rw[e2]
 simp
 rw[if_neg (by omega)]
 rw[qa]
 simpa using k
end
theorem qog {α:Type} {r:Out α} {a:α} {S:Sto} (h:Ok r fun b S'=>b=a∧S'=S):r=.ok a S:=by
 unfold Ok at h
 cases r with
 | ok b S'=>obtain ⟨rfl,rfl⟩:=h;rfl
 | err x S=>exact h.elim
 | no=>exact h.elim
section
variable {S:Sto} {x w:Str} {rs:List Str} {P:D→Sto→Prop} {wd td:D} {a:Addr}
theorem qfs (h:Txt.split x " "=w::rs) (hn:x.length≤100000):mtF .split (.str x) [.str " "] S=.ok (.lst ((w::rs).map D.str)) S:=by
 show (if decide ((" ":Str).length ≠ 0) && decide (x.length+2≤sizeLine)then M.pure (D.lst ((Txt.split x " ").map D.str))else M.fail) S=_
 rw[if_pos]
 · rw[h];rfl
 · rw[Bool.and_eq_true]
   exact⟨decide_eq_true (by rw[blank];decide),decide_eq_true (by have:=sizeLine_eq;omega)⟩
theorem qy3 (h:Txt.split x " "=w::rs) (hn:x.length≤100000) (hw:D.lst ((w::rs).map D.str)=wd):evS qaa qz qbw [some (.str x),none,none] S=.ok (.nx,[some (.str x),some wd,none]) S:=by
 refine qog ?_
 unfold qbw
 simp
 refine⟨rfl,?_⟩
 rw[qfs h hn,hw]
 simp
theorem qft (hw:D.lst ((w::rs).map D.str)=wd):ixM (look wd S) (.int 0) S=.ok (.str w) S:=by
 subst hw
 show ixM (.lst (.str w::rs.map D.str)) (.int 0) S=_
 rw[qlu,show atI (D.str w::rs.map D.str) 0=some (.str w) from qbt (j:=0) rfl]
theorem qy4 (hw:D.lst ((w::rs).map D.str)=wd):slM false (look wd S) (some 1) none S=.ok (.lst (rs.map D.str)) S:=by
 subst hw
 show alloc false (.lst (cutD (.str w::rs.map D.str) (some 1) none)) S=_
 rw[q7k];rfl
theorem qy5 (hw:D.lst ((w::rs).map D.str)=wd):evB qaa qz qcp [some (.str x),some wd,none] S=.ok (!(tabAt qe w).isSome) S:=by
 refine qog ?_
 unfold qcp
 simp
 rw[qft hw]
 simp
 exact⟨by cases tabAt qe w <;> rfl,rfl⟩
theorem q5e (hw:D.lst ((w::rs).map D.str)=wd) (ht:tabAt qe w=some a):evS qaa qz qby [some (.str x),some wd,none] S=.ok (.nx,[some (.str x),some wd,none]) S:=by
 refine qog ?_
 unfold qby
 simp
 rw[qft hw]
 simp
 have e4:∀ S,qpf qe (.str w) S=.ok false S:=fun S=>by
   show Out.ok (!(tabAt qe w).isSome) S=_
   rw[ht];rfl
 rw[e4]
 simp
theorem q5f (hw:D.lst ((w::rs).map D.str)=wd) (ht:tabAt qe w=some a) (hth:Ok (qao [.at_ a,.lst (rs.map D.str)] S) fun d S'=>d=td∧S'=S):evS qaa qz qbx [some (.str x),some wd,none] S=.ok (.nx,[some (.str x),some wd,some td]) S:=by
 refine qog ?_
 unfold qbx
 simp
 rw[qft hw]
 simp
 have e5:∀ S,qpe qe (.str w) S=.ok (.at_ a) S:=fun S=>by
   show (match tabAt qe w with | some b=>M.pure (D.at_ b) | none=>M.fail) S=_
   rw[ht];rfl
 rw[e5]
 simp
 rw[qy4 hw]
 simp
 refine Ok.mono hth fun d S' h=> ?_
 obtain ⟨rfl,rfl⟩:=h
 simp
noncomputable def q2h (d:D):Bool:=match d with
 | .non=>true
 | _=>false
theorem q5g (h:td=.non∨∃ ds,td=.lst ds):evB qaa qz qcq [some (.str x),some wd,some td] S=.ok (q2h td) S:=by
 refine qog ?_
 unfold qcq
 rcases h with rfl | ⟨ds,rfl⟩
 · simp;rfl
 · simp;rfl
theorem qvi (h:Txt.split x " "=w::rs) (hn:x.length≤100000) (ht:tabAt qe w=none):qax [some (.str x),none,none] S=some S:=by
 unfold qax qr7 qbd
 rw[qy3 h hn rfl]
 unfold qd2
 dsimp only
 rw[qy5 rfl,ht]
 rfl
theorem qpx (h:Txt.split x " "=w::rs) (hn:x.length≤100000) (ht:tabAt qe w=some a) (hth:∀ S,Ok (qao [.at_ a,.lst (rs.map D.str)] S) fun d S'=>d=td∧S'=S) (hd:td=.non∨∃ ds,td=.lst ds) :
   qax [some (.str x),none,none] S=if q2h td then some S else none:=by
 have e0:=qy3 (S:=S) h hn rfl
 have e0':evS qaa qz qer [some (.str x),none,none] S=_:=e0
 unfold qax qr7 qbd
 rw[e0,e0']
 unfold qd2
 dsimp only
 rw[qy5 rfl,ht]
 dsimp only [Option.isSome,Bool.not_true]
 rw[q5e rfl ht]
 dsimp only
 rw[q5f rfl ht (hth S)]
 dsimp only
 rw[q5g hd]
 cases q2h td <;> rfl
end
section
variable {S:Sto} {x w:Str} {rs:List Str} {P:D→Sto→Prop} {wd td:D} {a:Addr}
noncomputable def qsd:D:=.lst [.bl true,.bl false,.bl false]
theorem qqv {v1 v2:Option D}:qiw 1 2 (evA qd qc qa0) qax [some (.str x),v1,v2,none] S=qax [some (.str x),none,none] S:=by
 have e:evA qd qc qa0 [some (.str x),v1,v2,none] S=.ok [.str x] S:=rfl
 unfold qiw
 rw[e]
 rfl
theorem qfu (h:qax [some (.str x),none,none] S=some S) (q:P (.tup [.non,qsd]) S):Ok (ql [.str x] S) P:=by
 refine Ok.run ?_
 have e1:evS qd qc qv [some (.str x),none,none,none] S=.ok (.nx,[some (.str x),some .non,none,none]) S:=rfl
 have e2:evS qd qc qw [some (.str x),some .non,none,none] S=.ok (.nx,[some (.str x),some .non,some (.lst []),none]) S:=rfl
 have e3:qu [some (.str x),some .non,some (.lst []),none] S=.ok (.nx,[some (.str x),some .non,some qsd,none]) S:=by
   unfold qu qpv
   rw[qqv,h]
   rfl
 show Ok (seqS (evS qd qc qv) (seqS (evS qd qc qw) (seqS qu (qaf qd qc qm))) [some (.str x),none,none,none] S) _
 unfold seqS
 rw[okb,e1,qnl]
 show Ok (M.bind _ _ _) _
 rw[okb,e2,qnl]
 show Ok (M.bind _ _ _) _
 rw[okb,e3,qnl]
 show Ok (qaf qd qc qm _ S) _
 unfold qm
 rw[qa]
 simp [show sizeOk 2=true by decide]
 exact q
theorem qse (h:qax [some (.str x),none,none] S=none) (q:Ok (qc3 [.str x] S) fun d S'=>P (.tup [d,.lst []]) S'):Ok (ql [.str x] S) P:=by
 refine Ok.run ?_
 have e1:evS qd qc qv [some (.str x),none,none,none] S=.ok (.nx,[some (.str x),some .non,none,none]) S:=rfl
 have e2:evS qd qc qw [some (.str x),some .non,none,none] S=.ok (.nx,[some (.str x),some .non,some (.lst []),none]) S:=rfl
 have e3:qu [some (.str x),some .non,some (.lst []),none] S=qaf qd qc qaq [some (.str x),some .non,some (.lst []),none] S:=by
   unfold qu qpv
   rw[qqv,h]
 show Ok (seqS (evS qd qc qv) (seqS (evS qd qc qw) (seqS qu (qaf qd qc qm))) [some (.str x),none,none,none] S) _
 unfold seqS
 rw[okb,e1,qnl]
 show Ok (M.bind _ _ _) _
 rw[okb,e2,qnl]
 show Ok (M.bind _ _ _) _
 rw[okb,e3]
 unfold qaq
 rw[qa]
 simp
 refine Ok.mono q fun d S' hd=> ?_
 show Ok (qaf qd qc qm _ S') _
 unfold qm
 rw[qa]
 simp [show sizeOk 2=true by decide]
 exact hd
theorem qvj {ds:List D} (h:Txt.split x " "=w::rs) (hn:x.length≤100000) (ht:tabAt qe w=some a) (hth:∀ S,Ok (qao [.at_ a,.lst (rs.map D.str)] S) fun d S'=>d=.lst ds∧S'=S) (hl:ds.length≤100) (k:P (.tup (.str w::ds)) S):Ok (qc3 [.str x] S) P:=by
 refine Ok.run ?_
 unfold qgk
 have e1:∀ S,mtF .split (.str x) [.str " "] S=.ok (.lst ((w::rs).map D.str)) S:=fun S=>qfs h hn
 generalize hw:D.lst ((w::rs).map D.str)=wd at e1
 have e4:∀ S,qpf qe (.str w) S=.ok false S:=fun S=>by
   show Out.ok (!(tabAt qe w).isSome) S=_
   rw[ht];rfl
 have e5:∀ S,qpe qe (.str w) S=.ok (.at_ a) S:=fun S=>by
   show (match tabAt qe w with | some b=>M.pure (D.at_ b) | none=>M.fail) S=_
   rw[ht];rfl
 ((try simp);rw[qa];try simp)
 refine⟨rfl,?_⟩
 rw[e1]
 ((try simp);rw[qa];try simp)
 rw[qft hw]
 simp
 rw[e4]
 simp
 ((try simp);rw[qa];try simp)
 rw[qft hw]
 simp
 rw[e5]
 simp
 rw[qy4 hw]
 simp
 refine Ok.mono (hth S) fun d S' hd=> ?_
 obtain ⟨rfl,rfl⟩:=hd
 ((try simp);rw[qa];try simp)
 ((try simp);rw[qa];try simp)
 rw[qft hw]
 simp
 rw[qba (by simp)]
 simp
 rw[qb3 (by simp;omega)]
 simp [biF,qt0]
 exact k
end
section
variable {S:Sto} {x w sh:Str} {rs:List Str} {P:D→Sto→Prop} {wd td:D} {a:Addr}
noncomputable def qbh:List (Str × Str):=[("join","nc"),("pay","nc"),("draw","nc"),("tie","nn"),("untie","nn"),("bet","nnc"),("drop","nn"),("blanks","c"),("strike","c")]
theorem get_eq:qdy qbh "" (.str w) S=.ok (.str ((qbh.lookup w).getD "")) S:=rfl
theorem qkw (hw:D.lst ((w::rs).map D.str)=wd):biF .len [wd] S=.ok (.int (rs.length+1)) S:=by
 subst hw;simp
theorem qqw (h:Txt.split x " "=w::rs) (hn:x.length≤100000) (hs:(qbh.lookup w).getD ""=sh) (hl:sh.length≤100) (hb:sh=""∨rs.length ≠ sh.length) (k:P .non S):Ok (qa5 [.str x] S) P:=by
 refine Ok.run ?_
 unfold qdd
 have e1:∀ S,mtF .split (.str x) [.str " "] S=.ok (.lst ((w::rs).map D.str)) S:=fun S=>qfs h hn
 generalize hw:D.lst ((w::rs).map D.str)=wd at e1
 have e2:∀ S,qdy qbh "" (.str w) S=.ok (.str sh) S:=fun S=>by rw[get_eq,hs]
 unfold qbh at e2
 ((try simp);rw[qa];try simp)
 refine⟨rfl,?_⟩
 rw[e1]
 ((try simp);rw[qa];try simp)
 rw[qft hw]
 simp
 rw[e2]
 ((try simp);rw[qa];try simp)
 rw[qbg]
 simp
 have no:Ok (qaf qch qbr (.cons (.ret .non) .nil) [some (.str x),some wd,some (.str sh),none,none,none] S) (Go qch qbr qfl (Ret P)):=by
   rw[qa]
   simpa using k
 refine qdj (fun h0=>no) fun h0=> ?_
 rw[qkw hw]
 simp
 rw[len_str (by omega)]
 simp
 have hb:rs.length ≠ sh.length:=hb.resolve_left h0
 rw[if_neg (by omega)]
 exact no
theorem qvk {ps:List BS} (h:Txt.split x " "=w::ps.map (·.2)) (hn:x.length≤100000) (hs:(qbh.lookup w).getD ""=sh) (hc:sh.cps.toList=ps.map fun p=>if p.1 then 99 else 110) (h0:ps ≠ []) (hl:ps.length≤10) (ha:∀ p ∈ ps,Asc p.2∧Reads p.2)
   (k:∀ X,P (if qar ps then .tup (.str w::ps.map qak)else .non) (S++X)):Ok (qa5 [.str x] S) P:=by
 refine Ok.run ?_
 unfold qdd
 have sl:sh.length=ps.length:=by unfold Str.length;rw[← Array.length_toList,hc,List.length_map]
 have e1:∀ S,mtF .split (.str x) [.str " "] S=.ok (.lst ((w::ps.map (·.2)).map D.str)) S:=fun S=>qfs h hn
 generalize hw:D.lst ((w::ps.map (·.2)).map D.str)=wd at e1
 have e2:∀ S,qdy qbh "" (.str w) S=.ok (.str sh) S:=fun S=>by rw[get_eq,hs]
 unfold qbh at e2
 have ne:sh ≠ "":=fun z=>by
   have:sh.length=0:=by rw[z];decide
   cases ps with
   | nil=>exact h0 rfl
   | cons p t=>rw[sl]at this;simp at this
 ((try simp);rw[qa];try simp)
 refine⟨rfl,?_⟩
 rw[e1]
 ((try simp);rw[qa];try simp)
 rw[qft hw]
 simp
 rw[e2]
 ((try simp);rw[qa];try simp)
 rw[qbg]
 simp
 rw[if_neg ne]
 rw[qkw hw]
 simp
 rw[len_str (by omega)]
 simp
 rw[if_pos (by simp [sl])]
 ((try simp);rw[qa];try simp)
 rw[qft hw]
 simp
 rw[qba (by simp)]
 simp
 ((try simp);rw[qa];try simp)
 rw[len_str (by omega)]
 simp
 rw[qed (qhq (show sh.length≤20 by omega)),show ((sh.length:Int).toNat)=sh.length from rfl,qee,sl]
 simp
 have good:∀ (i:Nat) (hi:i < ps.length),qar (ps.take i)=true→(qa7 ps[i].1 ps[i].2).isSome=true→qar (ps.take (i+1))=true:=fun i hi h1 h2=>by
   unfold qar at *
   rw[List.take_succ_eq_append_getElem hi,List.all_append,h1]
   simp [h2]
 have bad:∀ (i:Nat) (hi:i < ps.length),qa7 ps[i].1 ps[i].2=none→qar ps=false:=fun i hi h1=>by
   unfold qar
   rw[List.all_eq_false]
   exact⟨ps[i],List.getElem_mem hi,by simp [h1]⟩
 obtain ⟨J,hJ⟩:∃ J:Nat→Env→Sto→Prop,∀ i Γ S',J i Γ S'↔(i≤ps.length∧qar (ps.take i)=true∧S'=S++[.lst (.str w::(ps.map qak).take i)]∧∃ v4 v5,Γ=[some (.str x),some wd,some (.str sh),some (.ref S.length),v4,v5]):=⟨_,fun _ _ _=>Iff.rfl⟩
 refine qhp (Iv:=J) ((hJ _ _ _).mpr ⟨Nat.zero_le _,rfl,rfl,none,none,rfl⟩) (fun i Γ S' _=>qb2) (fun i d Γ S' hd hj=> ?_) fun Γ S' hj=> ?_
 · obtain ⟨hi',hok,rfl,v4,v5,rfl⟩:=(hJ _ _ _).mp hj
   have hi:i < ps.length:=by have:=(List.getElem?_eq_some_iff.mp hd).1;simpa using this
   rw[qgj hi]at hd
   cases hd
   simp
   ((try simp);rw[qa];try simp)
   have e3:∀ S,ixM (look wd S) (.int (i+1)) S=.ok (.str ps[i].2) S:=fun S=>by
     subst hw
     show ixM (.lst (.str w::(ps.map (·.2)).map D.str)) (.int ((i+1:Nat):Int)) S=_
     rw[qlu,show atI (D.str w::(ps.map (·.2)).map D.str) ((i+1:Nat):Int)=some (.str ps[i].2) from qbt (by simp [hi])]
   have e4:∀ S,ixM (.str sh) (.int i) S=.ok (.str ⟨#[if ps[i].1 then 99 else 110]⟩) S:=fun S=>by
     show (match atI sh.cps.toList i with | some c=>if sizeOk sh.length then M.pure (D.str ⟨#[c]⟩)else M.fail | none=>M.fail) S=_
     rw[hc,show atI (ps.map fun p=>if p.1 then 99 else 110) (i:Int)=some (if ps[i].1 then 99 else 110) from qbt (by simp [hi])]
     show (if sizeOk sh.length then M.pure (D.str ⟨#[if ps[i].1 then 99 else 110]⟩)else M.fail) S=_
     rw[if_pos (qal (by omega))];rfl
   have cc:("c":Str)=⟨#[99]⟩:=by decide +kernel
   have cn:("n":Str)=⟨#[110]⟩:=by decide +kernel
   obtain ⟨hA,hR⟩:=ha ps[i] (List.getElem_mem hi)
   have nx:∀ d,qa7 ps[i].1 ps[i].2=some d→(ps.map qak).take i++[d]=(ps.map qak).take (i+1):=fun d hd=>by
     rw[List.take_succ_eq_append_getElem (by simpa using hi)]
     simp [qak,hd]
   have put:∀ d,qa7 ps[i].1 ps[i].2=some d→∀ Γ,(∃ v4 v5,Γ=[some (.str x),some wd,some (.str sh),some (.ref S.length),v4,v5])→Ok (mtF .append (.ref S.length) [d] (S++[.lst (.str w::(ps.map qak).take i)])) fun _ S1=>J (i+1) Γ S1:=fun d hd Γ hΓ=>by
     rw[qut (xs:=.str w::(ps.map qak).take i) (by simp) (by simp;omega)]
     refine(hJ _ _ _).mpr ⟨by omega,good i hi hok (by rw[hd];rfl),?_,hΓ⟩
     rw[← nx d hd]
     simp
   have out:qa7 ps[i].1 ps[i].2=none→P .non (S++[.lst (.str w::(ps.map qak).take i)]):=fun hd=>by
     have:=k [.lst (.str w::(ps.map qak).take i)]
     rw[bad i hi hd]at this
     exact this
   rw[e3]
   simp
   ((try simp);rw[qa];try simp)
   rw[e4]
   simp
   rw[qbg,cc]
   cases hb:ps[i].1 with
   | true =>
     simp
     refine qfr hA ?_
     cases hm:qfo ps[i].2 with
     | true =>
       have hp:qa7 ps[i].1 ps[i].2=some (.int ((intText? ps[i].2).getD 0)):=by unfold qa7;rw[hb,hm];rfl
       simp
       ((try simp);rw[qa];try simp)
       rw[hR hm]
       simp
       exact put _ hp _ ⟨_,_,rfl⟩
     | false =>
       have hp:qa7 ps[i].1 ps[i].2=none:=by unfold qa7;rw[hb,hm];rfl
       simp
       ((try simp);rw[qa];try simp)
       rw[e4]
       simp
       rw[qbg,cn,hb]
       simp
       rw[qa]
       simp
       exact out hp
   | false =>
     simp
     ((try simp);rw[qa];try simp)
     rw[e4]
     simp
     rw[qbg,cn,hb]
     simp
     refine qj0 hA ?_
     cases hm:qes ps[i].2 with
     | true =>
       have hp:qa7 ps[i].1 ps[i].2=some (.str ps[i].2):=by unfold qa7;rw[hb,hm];rfl
       simp
       ((try simp);rw[qa];try simp)
       exact put _ hp _ ⟨_,_,rfl⟩
     | false =>
       have hp:qa7 ps[i].1 ps[i].2=none:=by unfold qa7;rw[hb,hm];rfl
       simp
       rw[qa]
       simp
       exact out hp
 · obtain ⟨hi',hok,rfl,v4,v5,rfl⟩:=(hJ _ _ _).mp hj
   rw[qhr]at hok
   rw[qhr,List.take_length]at *
   rw[qy0]
   rw[qa]
   simp
   have e5:=k [.lst (.str w::ps.map qak)]
   rw[hok,if_pos rfl]at e5
   rw[List.take_of_length_le (by simp)]
   have lk:look (.ref S.length) (S++[Cell.lst (.str w::ps.map qak)])=.lst (.str w::ps.map qak):=by simp [look]
   simp [biF,qt0,lk]
   exact e5
end
structure Form (w:Str) (ks:List Bool) (a:Addr) (sh:Str):Prop where
 tab:tabAt qe w=some a
 kt:qfi qy a=some (ks.map kindS)
 hs:(qbh.lookup w).getD ""=sh
 cp:sh.cps.toList=ks.map fun b=>if b then 99 else 110
 ne:ks ≠ []
 ln:ks.length≤3
theorem qca {w:Str} {ks:List Bool} {a:Addr} {sh:Str} (h:(decide (tabAt qe w=some a) && decide (qfi qy a=some (ks.map kindS)) && decide ((qbh.lookup w).getD ""=sh) && decide (sh.cps.toList=ks.map fun b=>if b then 99 else 110) && !ks.isEmpty && decide (ks.length≤3))=true):Form w ks a sh:=by
 simp only [Bool.and_eq_true,decide_eq_true_eq,Bool.not_eq_true']at h
 obtain ⟨⟨⟨⟨⟨h1,h2⟩,h3⟩,h4⟩,h5⟩,h6⟩:=h
 exact⟨h1,h2,h3,h4,(fun z=>by rw[z]at h5;cases h5),h6⟩
theorem q5h (w:Str):(∃ ks a sh,Form w ks a sh)∨(tabAt qe w=none∧(qbh.lookup w).getD ""=""):=by
 by_cases h0:w="join"
 · subst h0;exact .inl ⟨[false,true],118,"nc",qca (by decide +kernel)⟩
 by_cases h1:w="pay"
 · subst h1;exact .inl ⟨[false,true],119,"nc",qca (by decide +kernel)⟩
 by_cases h2:w="draw"
 · subst h2;exact .inl ⟨[false,true],120,"nc",qca (by decide +kernel)⟩
 by_cases h3:w="tie"
 · subst h3;exact .inl ⟨[false,false],121,"nn",qca (by decide +kernel)⟩
 by_cases h4:w="untie"
 · subst h4;exact .inl ⟨[false,false],122,"nn",qca (by decide +kernel)⟩
 by_cases h5:w="bet"
 · subst h5;exact .inl ⟨[false,false,true],123,"nnc",qca (by decide +kernel)⟩
 by_cases h6:w="drop"
 · subst h6;exact .inl ⟨[false,false],124,"nn",qca (by decide +kernel)⟩
 by_cases h7:w="blanks"
 · subst h7;exact .inl ⟨[true],125,"c",qca (by decide +kernel)⟩
 by_cases h8:w="strike"
 · subst h8;exact .inl ⟨[true],126,"c",qca (by decide +kernel)⟩
 have e0:decide (("join":Str)=w)=false:=decide_eq_false fun z=>h0 z.symm
 have f0:(w==("join":Str))=false:=beq_eq_false_iff_ne.mpr h0
 have e1:decide (("pay":Str)=w)=false:=decide_eq_false fun z=>h1 z.symm
 have f1:(w==("pay":Str))=false:=beq_eq_false_iff_ne.mpr h1
 have e2:decide (("draw":Str)=w)=false:=decide_eq_false fun z=>h2 z.symm
 have f2:(w==("draw":Str))=false:=beq_eq_false_iff_ne.mpr h2
 have e3:decide (("tie":Str)=w)=false:=decide_eq_false fun z=>h3 z.symm
 have f3:(w==("tie":Str))=false:=beq_eq_false_iff_ne.mpr h3
 have e4:decide (("untie":Str)=w)=false:=decide_eq_false fun z=>h4 z.symm
 have f4:(w==("untie":Str))=false:=beq_eq_false_iff_ne.mpr h4
 have e5:decide (("bet":Str)=w)=false:=decide_eq_false fun z=>h5 z.symm
 have f5:(w==("bet":Str))=false:=beq_eq_false_iff_ne.mpr h5
 have e6:decide (("drop":Str)=w)=false:=decide_eq_false fun z=>h6 z.symm
 have f6:(w==("drop":Str))=false:=beq_eq_false_iff_ne.mpr h6
 have e7:decide (("blanks":Str)=w)=false:=decide_eq_false fun z=>h7 z.symm
 have f7:(w==("blanks":Str))=false:=beq_eq_false_iff_ne.mpr h7
 have e8:decide (("strike":Str)=w)=false:=decide_eq_false fun z=>h8 z.symm
 have f8:(w==("strike":Str))=false:=beq_eq_false_iff_ne.mpr h8
 refine .inr ⟨?_,?_⟩
 · unfold tabAt qe
   simp only [List.find?_cons,List.find?_nil,e0,e1,e2,e3,e4,e5,e6,e7,e8]
   rfl
 · unfold qbh
   simp only [List.lookup,f0,f1,f2,f3,f4,f5,f6,f7,f8]
   rfl
noncomputable def readOf (w:Str) (ps:List BS):D:=.tup (.str w::ps.map qak)
theorem qsf {x w:Str} {rs:List Str} (h:Txt.split x " "=w::rs) (hn:x.length≤100000) (ha:∀ r ∈ rs,Asc r∧Reads r) :
   ∃ r:D,((∀ S (P:D→Sto→Prop),(∀ X,P r (S++X))→Ok (qa5 [.str x] S) P)) ∧
     ((r=.non∧∀ S (P:D→Sto→Prop),P (.tup [.non,qsd]) S→Ok (ql [.str x] S) P) ∨
      (∃ ps:List BS,r=readOf w ps∧qar ps=true∧ps.length≤3∧∀ S (P:D→Sto→Prop),P (.tup [r,.lst []]) S→Ok (ql [.str x] S) P)):=by
 rcases q5h w with ⟨ks,a,sh,F⟩ | ⟨t0,s0⟩
 · have sl:sh.length=ks.length:=by unfold Str.length;rw[← Array.length_toList,F.cp,List.length_map]
   have hk:=F.ln
   by_cases hl:rs.length=ks.length
   · obtain ⟨ps,hp⟩:∃ ps,ps=ks.zip rs:=⟨_,rfl⟩
     have m1:ps.map (·.1)=ks:=by rw[hp];exact List.map_fst_zip (by omega)
     have m2:ps.map (·.2)=rs:=by rw[hp];exact List.map_snd_zip (by omega)
     have pl:ps.length≤3:=by rw[← List.length_map (f:=(·.1)),m1];exact hk
     have hA:∀ p ∈ ps,Asc p.2∧Reads p.2:=fun p hp'=>ha p.2 (by rw[← m2];exact List.mem_map.mpr ⟨p,hp',rfl⟩)
     have kt:qfi qy a=some (ps.map fun p=>kindS p.1):=by rw[F.kt,← m1,List.map_map];rfl
     have th:∀ S,Ok (qao [.at_ a,.lst (rs.map D.str)] S) fun d S'=>d=qdg ps∧S'=S:=fun S=>qpw (by rw[← m2,List.map_map];rfl) kt hA (by omega) ⟨rfl,rfl⟩
     have cp:sh.cps.toList=ps.map fun p=>if p.1 then 99 else 110:=by rw[F.cp,← m1,List.map_map];rfl
     have ne:ps ≠ []:=fun z=>F.ne (by rw[← m1,z];rfl)
     have rd:∀ S (P:D→Sto→Prop),(∀ X,P (if qar ps then readOf w ps else .non) (S++X))→Ok (qa5 [.str x] S) P:=fun S P k=>qvk (ps:=ps) (by rw[h,m2]) hn F.hs cp ne (by omega) hA k
     cases ok:qar ps with
     | true =>
       rw[ok]at rd
       have td:qdg ps=.lst (ps.map qak):=by unfold qdg;rw[ok];rfl
       refine⟨readOf w ps,rd,.inr ⟨ps,rfl,ok,pl,fun S P k=>qse ?_ ?_⟩⟩
       · rw[qpx h hn F.tab th (.inr ⟨_,td⟩),td];rfl
       · exact qvj h hn F.tab (fun S=>by rw[← td];exact th S) (by simp;omega) k
     | false =>
       rw[ok]at rd
       have td:qdg ps=.non:=by unfold qdg;rw[ok];rfl
       refine⟨.non,rd,.inl ⟨rfl,fun S P k=>qfu ?_ k⟩⟩
       rw[qpx h hn F.tab th (.inl td),td];rfl
   · refine⟨.non,fun S P k=>qqw h hn F.hs (by omega) (.inr (by rw[sl];exact hl)) (by simpa using k []),.inl ⟨rfl,fun S P k=>qfu ?_ k⟩⟩
     rw[qpx (td:=.non) h hn F.tab (fun S=>qsc rfl F.kt (by simpa using hl) ⟨rfl,rfl⟩) (.inl rfl)];rfl
 · refine⟨.non,fun S P k=>qqw h hn s0 (by decide) (.inl rfl) (by simpa using k []),.inl ⟨rfl,fun S P k=>qfu (qvi h hn t0) k⟩⟩
theorem qvl {c:Nat}:∀ {ps:List (List Nat)} {p:List Nat},p ∈ ps→(∀ d ∈ p,d ∈ jn c ps)∧p.length≤(jn c ps).length
 | [a],p,h=>by rw[List.mem_singleton.mp h];exact⟨fun d hd=>hd,Nat.le_refl _⟩
 | a ::b::r,p,h=>by
   rw[show jn c (a::b::r)=a++c::jn c (b::r) from rfl]
   rcases List.mem_cons.mp h with rfl | h
   · exact⟨fun d hd=>List.mem_append_left _ hd,by simp⟩
   · obtain ⟨h1,h2⟩:=qvl (c:=c) h
     exact⟨fun d hd=>List.mem_append_right _ (.tail _ (h1 d hd)),by simp;omega⟩
theorem qsg {x:Str} (h:Asc x):∃ w rs,Txt.split x " "=w::rs∧∀ r ∈ w::rs,Asc r:=by
 have e1:=StrLaws.join_split x ⟨#[32]⟩
 have e3:=split_pos x ⟨#[32]⟩
 rw[← blank]at e1 e3
 have e4:jn 32 ((Txt.split x " ").map fun x=>x.cps.toList)=x.cps.toList:=by
   rw[← qi7,← blank,e1]
 have all:∀ r ∈ Txt.split x " ",Asc r:=fun r hr=>by
   obtain ⟨h1,h2⟩:=qvl (c:=32) (List.mem_map.mpr ⟨r,hr,rfl⟩:r.cps.toList ∈ (Txt.split x " ").map fun x=>x.cps.toList)
   rw[e4]at h1 h2
   refine⟨fun c hc=>h.sg c (h1 c hc),?_⟩
   have:=h.ln
   unfold Str.length at *
   rw[← Array.length_toList]at *
   omega
 cases e:Txt.split x " " with
 | nil=>rw[e]at e3;simp at e3
 | cons w rs=>exact⟨w,rs,rfl,fun r hr=>all r (by rw[e];exact hr)⟩
theorem qsh (x:Str):Reads x:=by
 intro h S
 unfold qfo at h
 simp only [Bool.and_eq_true,decide_eq_true_eq]at h
 obtain ⟨⟨⟨h1,h2⟩,h3⟩,_⟩:=h
 have hd:∀ c ∈ x.cps.toList,48≤c∧c≤57:=fun c hc=>by
   have:=List.all_eq_true.mp h3 c hc
   unfold fig at this
   simpa using this
 have e:∃ n,intText? x=some n:=⟨_,intText_digits hd (fun z=>by
   have:x.length=0:=by unfold Str.length;rw[← Array.length_toList,z];rfl
   omega) (by omega)⟩
 obtain ⟨n,e⟩:=e
 show (match PySem.intText? x with | some n=>if decide (x.length≤640)then M.pure (D.int n)else M.fail | none=>M.fail) S=_
 rw[e]
 show (if decide (x.length≤640)then M.pure (D.int n)else M.fail) S=_
 rw[if_pos (decide_eq_true (by omega))];rfl
theorem qvm {x:Str} (h:Asc x):∃ (w:Str) (r:D),((∀ S (P:D→Sto→Prop),(∀ X,P r (S++X))→Ok (qa5 [.str x] S) P)) ∧
     ((r=.non∧∀ S (P:D→Sto→Prop),P (.tup [.non,qsd]) S→Ok (ql [.str x] S) P) ∨
      (∃ ps:List BS,r=readOf w ps∧qar ps=true∧ps.length≤3∧∀ S (P:D→Sto→Prop),P (.tup [r,.lst []]) S→Ok (ql [.str x] S) P)):=by
 obtain ⟨w,rs,e,ha⟩:=qsg h
 exact⟨w,qsf e (Nat.le_trans h.ln (by decide)) fun r hr=>⟨ha r (.tail _ hr),qsh r⟩⟩
theorem qvn {m n:Nat} {g:Nat→D} {S:Sto} {P:D→Sto→Prop} {x:D} (hx:D.lst (vec n g)=x) (hn:n≤100) (hg:∀ i < n,∀ S (P:D→Sto→Prop),P (.bl true) S→Ok (qo (m+1) [g i,g i] S) P) (k:P (.bl true) S):Ok (qo (m+2) [x,x] S) P:=by
 have i1:∀ S,biF .isi [x,.ty "list"] S=.ok (.bl true) S:=fun _=>by subst hx;rfl
 have i2:∀ S,biF .isi [x,.ty "tuple"] S=.ok (.bl false) S:=fun _=>by subst hx;rfl
 have hl:∀ S,biF .len [x] S=.ok (.int n) S:=fun S=>by
   subst hx
   rw[q12,qhr]
 have hz:∀ S,qgw [x,x] S=.ok (vec n fun i=>.tup [g i,g i],[]) S:=fun S=>by
   subst hx
   simp [qgw,qa3,M.bind]
   rw[qxq]
 unfold qo
 refine Ok.run ?_
 unfold qbi
 ((try simp);rw[qa];try simp [i1])
 ((try simp);rw[qa];try simp [i1,i2,qnn])
 ((try simp);rw[qa];try simp)
 rw[hl]
 simp
 rw[hl]
 simp
 rw[hz]
 simp
 refine⟨qbc (by omega),qxn (g:=fun _=>.bl true) qb2 (fun i hi=> ?_) ?_⟩
 · simp
   exact hg i hi _ _ ⟨rfl,rfl⟩
 · rw[qxo];simp;exact k
noncomputable def Self (m:Nat) (d:D):Prop:=∀ S (P:D→Sto→Prop),P (.bl true) S→Ok (qo m [d,d] S) P
theorem qja {m:Nat} {ds:List D} (hl:ds.length≤100) (hg:∀ d ∈ ds,Self (m+1) d):Self (m+2) (.tup ds):=by
 intro S P k
 generalize hd:D.tup ds=dd
 have i1:∀ S,biF .isi [dd,.ty "list"] S=.ok (.bl false) S:=fun _=>by subst hd;rfl
 have i2:∀ S,biF .isi [dd,.ty "tuple"] S=.ok (.bl true) S:=fun _=>by subst hd;rfl
 have hz:∀ S,qgw [dd,dd] S=.ok (ds.map fun p=>.tup [p,p],[]) S:=fun S=>by
   subst hd
   have z:∀ ds:List D,qcv ds ds=ds.map fun p=>.tup [p,p]:=by
     intro ds
     induction ds with
     | nil=>rfl
     | cons q qs ih=>simp only [List.map_cons,qcv];rw[ih]
   show Out.ok (qcv ds ds,_) S=_
   rw[z];rfl
 have hn:∀ S,biF .len [dd] S=.ok (.int ds.length) S:=fun S=>by
   subst hd
   rfl
 unfold qo
 refine Ok.run ?_
 unfold qbi
 ((try simp);rw[qa];try simp [i1,i2])
 ((try simp);rw[qa];try simp [i1,i2,qnn])
 ((try simp);rw[qa];try simp)
 rw[hn]
 simp
 rw[hn]
 simp
 rw[hz]
 simp
 refine⟨qbc (by omega),qcg (l:=ds) (e:=fun p=>.tup [p,p]) (g:=fun _=>.bl true) qb2 (fun p hp=> ?_) ?_⟩
 · simp
   exact hg p hp _ _ ⟨rfl,rfl⟩
 · rw[all_map,show (ds.all fun _=>true)=true from List.all_eq_true.mpr (by simp)]
   simpa using k
theorem qyl {m:Nat} {a:Bool}:Self (m+1) (.bl a):=by
 intro S P k
 unfold qo
 refine Ok.run ?_
 unfold qbi
 have i1:∀ (b:Bool) S,biF .isi [.bl b,.ty "list"] S=.ok (.bl false) S:=fun _ _=>rfl
 have i2:∀ (b:Bool) S,biF .isi [.bl b,.ty "tuple"] S=.ok (.bl false) S:=fun _ _=>rfl
 have i3:∀ (b:Bool) S,biF .isi [.bl b,.ty "bool"] S=.ok (.bl true) S:=fun _ _=>rfl
 have i4:∀ (b:Bool) S,biF .isi [.bl b,.ty "int"] S=.ok (.bl true) S:=fun _ _=>rfl
 have i5:∀ (b:Bool) S,biF .isi [.bl b,.ty "str"] S=.ok (.bl false) S:=fun _ _=>rfl
 have i6:∀ (b:Bool) S,qa2 .Is (.bl b) .non S=.ok (.bl false) S:=fun _ _=>rfl
 ((try simp);rw[qa];try simp [i1,i2])
 ((try simp);rw[qa];try simp [i6])
 ((try simp);rw[qa];try simp [i3,i4,qnn])
 ((try simp);rw[qa];try simp [i5,qu1])
 exact k
theorem qoh {m:Nat}:Self (m+1) .non:=by
 intro S P k
 have e:qo (m+1) [.non,.non] S=.ok (.bl true) S:=by rfl
 rw[e];exact k
theorem qoi {m:Nat} {ds:List D} (hl:ds.length≤100) (hg:∀ d ∈ ds,Self (m+1) d):Self (m+2) (.lst ds):=fun S P k =>
 qvn (n:=ds.length) (g:=fun i=>ds.getD i .non) (by rw[← quv]) hl (fun i hi S P k=>hg _ (by simp [hi]) S P k) k
theorem qsi {m:Nat} {p:BS}:Self (m+1) (qak p):=by
 intro S P k
 unfold qak
 rcases qi8 p with e | ⟨i,e⟩ | ⟨z,e⟩ <;> rw[e]
 · exact qoh S P k
 · exact same_int k
 · exact same_str k
theorem qsj {w:Str} {ps:List BS} (hl:ps.length≤3):Self 5 (.tup [readOf w ps,.lst []]):=by
 refine qja (m:=3) (by simp) fun d hd=> ?_
 simp only [List.mem_cons,List.not_mem_nil,or_false]at hd
 rcases hd with rfl | rfl
 · refine qja (m:=2) (by simp;omega) fun e he=> ?_
   rcases List.mem_cons.mp he with rfl | he
   · exact fun S P k=>same_str k
   · obtain ⟨p,_,rfl⟩:=List.mem_map.mp he
     exact qsi
 · exact qoi (m:=2) (by simp) (by simp)
theorem qoj:Self 5 (.tup [.non,qsd]):=by
 refine qja (m:=3) (by simp) fun d hd=> ?_
 simp only [List.mem_cons,List.not_mem_nil,or_false]at hd
 rcases hd with rfl | rfl
 · exact qoh
 · refine qoi (m:=2) (by simp) fun e he=> ?_
   simp only [List.mem_cons,List.not_mem_nil,or_false]at he
   rcases he with rfl | rfl | rfl <;> exact qyl
structure Wo (L:Nat) (x:Str):Prop where
 sg:∀ c ∈ x.cps.toList,c < 128
 ln:x.length≤L
theorem Wo.mono {L M:Nat} {x:Str} (h:Wo L x) (l:L≤M):Wo M x:=⟨h.sg,Nat.le_trans h.ln l⟩
theorem qsk {x:Str} {l u:Option Int}:∀ c ∈ (Txt.slice x l u).cps.toList,c ∈ x.cps.toList:=by
 unfold Txt.slice
 split
 · exact fun c h=>h
 · intro c hc
   have hc':c ∈ (Builtin.Str.strSliceIndices l u 1 x.length).filterMap (x.cps[·]?):=by simpa using hc
   obtain ⟨i,_,h⟩:=List.mem_filterMap.mp hc'
   obtain ⟨hi,e⟩:=Array.getElem?_eq_some_iff.mp h
   rw[← e]
   simp
theorem qok (x:Array Nat):∀ (n:Nat) (a:Array Nat),((List.replicate n x).foldl (·++·) a).toList=a.toList++(List.replicate n x.toList).flatten
 | 0,a=>by simp
 | n+1,a=>by rw[List.replicate_succ,List.foldl_cons,qok x n,List.replicate_succ,List.flatten_cons];simp
theorem q5i {x:Str}:(∀ c ∈ (Txt.mul x 3).cps.toList,c ∈ x.cps.toList)∧(Txt.mul x 3).length≤3 * x.length:=by
 unfold Txt.mul
 rw[if_neg (by decide)]
 split
 · exact⟨fun c h=>h,by omega⟩
 · have e:=qok x.cps 3 #[]
   constructor
   · intro c hc
     have hc':c ∈ ((List.replicate 3 x.cps).foldl (·++·) #[]).toList:=hc
     rw[e]at hc'
     simp at hc'
     simpa using hc'
   · show ((List.replicate 3 x.cps).foldl (·++·) #[]).size≤_
     rw[← Array.length_toList,e]
     unfold Str.length
     simp
     omega
theorem len_app {x y:Str}:(x++y).length=x.length+y.length:=by
 have:=congrArg List.length (qei x y)
 rw[List.length_append]at this
 unfold Str.length
 simpa using this
theorem Wo.app {L M:Nat} {x y:Str} (h:Wo L x) (k:Wo M y):Wo (L+M) (x++y):=by
 refine⟨fun c hc=> ?_,?_⟩
 · rw[qei]at hc
   rcases List.mem_append.mp hc with z | z
   · exact h.sg c z
   · exact k.sg c z
 · rw[len_app];exact Nat.add_le_add h.ln k.ln
theorem Wo.slice {L:Nat} {x:Str} {l u:Option Int} (h:Wo L x):Wo L (Txt.slice x l u):=⟨fun c hc=>h.sg c (qsk c hc),Nat.le_trans (Txt.slice_le x l u) h.ln⟩
theorem Wo.nm {x:Str} (h:Nm x):Wo 10 x:=⟨fun c hc=>by have:=h.sg c hc;omega,by have:=h.hi;omega⟩
theorem Wo.nu {n:Int} (h:Nu n):Wo 10 (qjy n):=⟨fun c hc=>by have:=h.signs c hc;omega,h.len.2⟩
noncomputable def woB (L:Nat) (x:Str):Bool:=x.cps.toList.all (fun c=>decide (c < 128)) && decide (x.length≤L)
theorem Wo.of {L:Nat} {x:Str} (h:woB L x=true):Wo L x:=by
 unfold woB at h
 rw[Bool.and_eq_true,decide_eq_true_eq]at h
 exact⟨fun c hc=>of_decide_eq_true (List.all_eq_true.mp h.1 c hc),h.2⟩
structure Ws (n L:Nat) (ws:List Str):Prop where
 lo:1≤ws.length
 hi:ws.length≤n
 wo:∀ w ∈ ws,Wo L w
theorem qqx {w:Str}:∀ ws:List Str,qci (.str w) (ws.map D.str)=some (decide (w ∈ ws))
 | []=>by simp [qci]
 | x ::ws=>by
   rw[List.map_cons,qci,qqx ws]
   have e:eqD (.str x) (.str w)=some (decide (x=w)):=by simp [eqD,D.flat,eqV];by_cases h:x=w <;> simp [h]
   have e2:(D.str x).dep≤60:=by show 0≤60;decide
   rw[e]
   simp only [e2,decide_true,if_true]
   congr 1
   by_cases h:x=w
   · subst h;simp
   · have:¬ w=x:=fun z=>h z.symm
     simp [h,this]
theorem qqy {w:Str} {ws:List Str} {t:D} {S:Sto} (ht:D.tup (ws.map D.str)=t):qa2 .In (.str w) t S=.ok (.bl (decide (w ∈ ws))) S:=by
 subst ht
 show (match qci (.str w) (ws.map D.str)with | some b=>M.pure (D.bl (false != b)) | none=>M.fail) S=_
 rw[qqx]
 show M.pure (D.bl (false != decide (w ∈ ws))) S=_
 simp
theorem qqz {ws:List Str} {i:Int} (h0:0≤i) (h1:i < ws.length):∃ w ∈ ws,atI (ws.map D.str) i=some (.str w):=by
 obtain ⟨v,e1,e2⟩:=qpl (xs:=ws.map D.str) h0 (by simpa using h1)
 rw[List.getElem?_map]at e1
 obtain ⟨w,hw,rfl⟩:=Option.map_eq_some_iff.mp e1
 exact⟨w,List.mem_of_getElem? hw,e2⟩
noncomputable abbrev qmk:List Str:=["join","pay","draw","tie","untie","bet","drop","blanks","strike"]
theorem qsl:∀ w ∈ qmk,Wo 10 w:=by
 have:(qmk.all fun w=>woB 10 w)=true:=by decide +kernel
 exact fun w hw=>Wo.of (List.all_eq_true.mp this w hw)
theorem qpy {c:Cell} {S:Sto} {P:D→Sto→Prop} (hc:qdk c) (k:∀ ws c' T,Ws 4 10 ws→qdk c'→P (.lst (ws.map D.str)) (c'::T)):Ok (qeg [.ref 0] (c::S)) P:=by
 refine Ok.run ?_
 unfold qgl
 ((try simp);rw[qa];try simp)
 generalize hm:D.int 2=m
 refine qvh hm hc fun x y c1 T1 hx hy hc1=> ?_
 have i0:∀ S,ixM (.lst [.str x,.str y]) (.int 0) S=.ok (.str x) S:=fun _=>rfl
 have i1:∀ S,ixM (.lst [.str x,.str y]) (.int 1) S=.ok (.str y) S:=fun _=>rfl
 have ll:∀ S,look (.lst [.str x,.str y]) S=.lst [.str x,.str y]:=fun _=>rfl
 generalize hnm:D.lst [.str x,.str y]=nm at *
 ((try simp);rw[qa];try simp)
 rw[qba (by simp)]
 simp
 refine qav hc1 (by decide) (by decide) fun r2 c2 a2 b2 hc2=> ?_
 obtain ⟨w,hw,e⟩:=qqz (ws:=qmk) a2 (by simpa using b2)
 have hw:=qsl w hw
 simp only [qmk,List.map_cons,List.map_nil]at e
 simp
 rw[e]
 simp
 ((try simp);rw[qa];try simp [qur (show qk1 10 10 from ⟨by decide,by decide,by decide⟩)])
 refine qav hc2 (by decide) (by decide) fun r3 c3 a3 b3 hc3=> ?_
 refine qav hc3 (by decide) (by decide) fun r4 c4 a4 b4 hc4=> ?_
 rw[qba (by simp)]
 simp
 refine qav hc4 (by decide) (by decide) fun r5 c5 a5 b5 hc5=> ?_
 have all:∀ i:Int,0≤i→i < 4→∃ n,Nu n∧atI [D.int 0,D.int r3,D.int r4,D.int 9999999999] i=some (.int n):=by
   intro i h0 h5
   obtain ⟨j,rfl⟩:=Int.eq_ofNat_of_zero_le h0
   match j with
   | 0=>exact⟨0,⟨by decide,by decide⟩,rfl⟩
   | 1=>exact⟨r3,⟨a3,by omega⟩,rfl⟩
   | 2=>exact⟨r4,⟨a4,by omega⟩,rfl⟩
   | 3=>exact⟨9999999999,⟨by decide,by decide⟩,rfl⟩
   | j+4=>omega
 obtain ⟨n,hn,e4⟩:=all r5 a5 b5
 simp
 rw[e4]
 have es:∀ S,biF .str [.int n] S=.ok (.str (qjy n)) S:=fun S=>qvg (p:=.nu n) hn
 have hz:=Wo.nu hn
 generalize qjy n=z at es hz
 have hx:=Wo.nm hx
 have hy:=Wo.nm hy
 simp [es]
 have s2:sizeOk 2=true:=qal (by decide)
 have s3:sizeOk 3=true:=qal (by decide)
 have t1:∀ S,qa2 .In (.str w) (.tup [.str "blanks",.str "strike"]) S=.ok (.bl (decide (w ∈ (["blanks","strike"]:List Str)))) S:=fun S=>qqy rfl
 have t2:∀ S,qa2 .In (.str w) (.tup [.str "join",.str "pay",.str "draw"]) S=.ok (.bl (decide (w ∈ (["join","pay","draw"]:List Str)))) S:=fun S=>qqy rfl
 generalize decide (w ∈ (["blanks","strike"]:List Str))=d1 at t1
 generalize decide (w ∈ (["join","pay","draw"]:List Str))=d2 at t2
 have t3:∀ S,qa2 .Eq (.str w) (.str "bet") S=.ok (.bl (decide (w="bet"))) S:=fun S=>qbg
 generalize decide (w="bet")=d3 at t3
 rw[qa]
 simp [s2,s3,t1]
 cases d1 with
 | true =>
   simp
   rw[qa]
   simp
   rw[qba (by simp)]
   simp
   exact k [w,z] c5 T1 ⟨by simp,by simp,by simp;exact⟨hw,hz⟩⟩ hc5
 | false =>
   simp
   rw[qa]
   simp [s2,s3,t2]
   cases d2 with
   | true =>
     simp
     rw[qa]
     simp [ll,i0]
     rw[qba (by simp)]
     simp
     exact k [w,x,z] c5 T1 ⟨by simp,by simp,by simp;exact⟨hw,hx,hz⟩⟩ hc5
   | false =>
     simp
     rw[qa]
     simp [ll,i0,i1]
     rw[qba (by simp)]
     simp
     rw[qba (by simp)]
     simp [t3]
     cases d3 with
     | true =>
       have e5:∀ S,biF .int [.bl true] S=.ok (.int 1) S:=fun _=>rfl
       have e6:∀ S,slM false (.lst [.str z]) none (some 1) S=.ok (.lst [.str z]) S:=fun S=>quz (k:=1)
       simp [e5,e6]
       rw[qb3 (by simp)]
       simp
       exact k [w,x,y,z] c5 T1 ⟨by simp,by simp,by simp;exact⟨hw,hx,hy,hz⟩⟩ hc5
     | false =>
       have e5:∀ S,biF .int [.bl false] S=.ok (.int 0) S:=fun _=>rfl
       have e6:∀ S,slM false (.lst [.str z]) none (some 0) S=.ok (.lst []) S:=fun S=>quz (k:=0)
       simp [e5,e6]
       rw[qb3 (by simp)]
       simp
       exact k [w,x,y] c5 T1 ⟨by simp,by simp,by simp;exact⟨hw,hx,hy⟩⟩ hc5
theorem Ws.putin {n L M i j:Nat} {ws:List Str} {x:Str} (h:Ws n L ws) (l:L≤M) (hx:Wo M x) (hij:i≤j):Ws (n+1) M (ws.take i++[x]++ws.drop j):=by
 refine⟨by simp;omega,by simp;have:=h.hi;omega,fun w hw=> ?_⟩
 rcases List.mem_append.mp hw with hw | hw
 · rcases List.mem_append.mp hw with hw | hw
   · exact(h.wo w (List.mem_of_mem_take hw)).mono l
   · rw[List.mem_singleton.mp hw];exact hx
 · exact(h.wo w (List.mem_of_mem_drop hw)).mono l
noncomputable abbrev qml:Str:=" !\"#$&'()*+,-./0123456789:;<=>?@ABCDEFGHIJKLMNOPQRSTUVWXYZ[\\]^_`abcdefghijklmnopqrstuvwxyz{|}~\n"
theorem qpz:Wo 99 qml:=Wo.of (by decide +kernel)
theorem qol:1≤qml.length:=by decide +kernel
theorem qym {z:Str} {i:Int} {L:Nat} (hz:Wo L z) (hL:L≤1000) (h0:0≤i) (h1:i < z.length):∃ x,Wo 1 x∧∀ S,ixM (.str z) (.int i) S=.ok (.str x) S:=by
 obtain ⟨c,e1,e2⟩:=qpl (xs:=z.cps.toList) h0 (by simpa [Str.length]using h1)
 refine⟨⟨#[c]⟩,⟨fun d hd=> ?_,Nat.le_refl _⟩,fun S=> ?_⟩
 · have hd:d=c:=by simpa using hd
   rw[hd]
   exact hz.sg c (List.mem_of_getElem? e1)
 · show (match atI z.cps.toList i with | some c=>if sizeOk z.length then M.pure (D.str ⟨#[c]⟩)else M.fail | none=>M.fail) S=_
   rw[e2]
   show (if sizeOk z.length then M.pure (D.str ⟨#[c]⟩)else M.fail) S=_
   rw[if_pos (qal (Nat.le_trans hz.ln hL))];rfl
theorem qc4 {x y:Str} {L K:Nat} {S:Sto} (hx:Wo L x) (hy:Wo K y) (h:L+K≤1000):qha false .Add (.str x) (.str y) S=.ok (.str (x++y)) S:=by
 show (if sizeOk (x.length+y.length)then M.pure (D.str (x++y))else M.fail) S=_
 have h1:=hx.ln
 have h2:=hy.ln
 rw[if_pos (qal (by omega))];rfl
theorem qvo {x:Str} {L:Nat} {S:Sto} (hx:Wo L x) (h:L≤1000):qha false .Mult (.str x) (.int 3) S=.ok (.str (Txt.mul x 3)) S:=by
 show (if decide (0≤(3:Int)) && decide ((3:Int)≤1000) && decide (x.length≤10000)then M.pure (D.str (Txt.mul x 3))else M.fail) S=_
 have h1:=hx.ln
 rw[if_pos (by simp;omega)];rfl
theorem qq0 {x:Str} {L:Nat} {l u:Option Int} {S:Sto} (hx:Wo L x) (h:L≤1000):slM false (.str x) l u S=.ok (.str (Txt.slice x l u)) S:=by
 show (if sizeOk x.length then M.pure (D.str (Txt.slice x l u))else M.fail) S=_
 rw[if_pos (qal (Nat.le_trans hx.ln h))];rfl
theorem qet {c:Cell} {S:Sto} {P:D→Sto→Prop} {n L:Nat} {ws:List Str} {wd:D} (hc:qdk c) (hw:Ws n L ws) (hn:n≤50) (hL:L≤100) (hd:D.lst (ws.map D.str)=wd)
   (k:∀ vs c',Ws (n+1) (3 * L+1) vs→qdk c'→P (.lst (vs.map D.str)) (c'::S)):Ok (qb9 [.ref 0,wd] (c::S)) P:=by
 have h1:=hw.lo
 have h2:=hw.hi
 have lk:∀ S,look wd S=wd:=fun S=>by subst hd;rfl
 have ln:∀ S,biF .len [wd] S=.ok (.int ws.length) S:=fun S=>by subst hd;simp
 have st:∀ (i:Nat) S,slM false wd none (some (i:Int)) S=.ok (.lst ((ws.take i).map D.str)) S:=fun i S=>by subst hd;rw[quz,List.map_take]
 have sf:∀ (i:Nat) S,slM false wd (some (i:Int)) none S=.ok (.lst ((ws.drop i).map D.str)) S:=fun i S=>by subst hd;rw[qxp,List.map_drop]
 refine Ok.run ?_
 unfold qde
 ((try simp);rw[qa];try simp)
 refine qav hc (by decide) (by decide) fun way c1 a1 b1 hc1=> ?_
 ((try simp);rw[qa];try simp [ln])
 refine qav hc1 (by omega) (by omega) fun at0 c2 a2 b2 hc2=> ?_
 obtain ⟨a,rfl⟩:=Int.eq_ofNat_of_zero_le a2
 have ha:a < ws.length:=by omega
 obtain ⟨x,hx⟩:∃ x,ws[a]? =some x:=⟨_,List.getElem?_eq_getElem ha⟩
 have hxw:Wo L x:=hw.wo x (List.mem_of_getElem? hx)
 have ix:∀ S,ixM wd (.int a) S=.ok (.str x) S:=fun S=>by
   subst hd
   rw[qlu,show atI (ws.map D.str) (a:Int)=some (.str x) from qbt (by rw[List.getElem?_map,hx];rfl)]
 have st0:=st a
 have sf0:=sf a
 have st1:=st (a+1)
 have sf1:=sf (a+1)
 have ea:((a+1:Nat):Int)=(a:Int)+1:=rfl
 rw[ea]at st1 sf1
 have fin:∀ (i j:Nat) (y:Str) (c':Cell),i≤j→Wo (3 * L+1) y→qdk c'→P (.lst ((ws.take i).map D.str++(.str y::(ws.drop j).map D.str))) (c'::S):=fun i j y c' hij hy hc'=>by
   have:=k (ws.take i++[y]++ws.drop j) c' (hw.putin (by omega) hy hij) hc'
   simpa using this
 have z1:∀ i j:Nat,(ws.take i).length+(ws.drop j).length+1≤1000:=fun i j=>by simp;omega
 clear sf st
 by_cases w0:way=0∧1 < ws.length
 · obtain ⟨rfl,w1⟩:=w0
   have w2:(1:Int) < (ws.length:Int):=by omega
   ((try simp);rw[qa];try simp [ln,w2])
   rw[qa]
   simp [lk,st0,sf1]
   rw[qb3 (by simp;omega)]
   simp
   have:=k (ws.take a++ws.drop (a+1)) c2 ⟨by simp;omega,by simp;omega,fun w h=>(hw.wo w ((List.mem_append.mp h).elim List.mem_of_mem_take List.mem_of_mem_drop)).mono (by omega)⟩ hc2
   simpa using this
 have skip:∀ {A B:Prop},B→(if way=0 then (if (1:Int) < ws.length then A else B)else B):=fun {A B} hb=>by
   by_cases z:way=0
   · rw[if_pos z,if_neg fun y=>w0 ⟨z,by omega⟩];exact hb
   · rw[if_neg z];exact hb
 rw[qa]
 simp [ln]
 refine skip ?_
 clear skip
 rw[qa]
 simp
 refine qdj (fun w1=> ?_) fun w1=> ?_
 · rw[qa]
   simp [lk,st0,sf0,ix]
   rw[qba (by simp)]
   simp
   rw[qb3 (by simp;omega)]
   simp
   rw[qb3 (by simp;omega)]
   simpa using fin a a x c2 (Nat.le_refl _) (hxw.mono (by omega)) hc2
 rw[qa]
 simp
 refine qdj (fun w2=> ?_) fun w2=> ?_
 · rw[qa]
   simp [lk,st1,sf1,ix]
   rw[qba (by simp)]
   simp
   rw[qb3 (by simp;omega)]
   simp
   rw[qb3 (by simp;omega)]
   simpa using fin (a+1) (a+1) "" c2 (Nat.le_refl _) (Wo.of (by show woB (3 * L+1) ""=true;simp [woB];exact⟨by decide +kernel,by rw[show ("":Str).length=0 by decide +kernel];omega⟩)) hc2
 rw[qa]
 simp
 refine qdj (fun w3=> ?_) fun w3=> ?_
 · rw[qa]
   simp [lk,ix]
   rw[qa]
   have o0:Wo 1 "0":=Wo.of (by decide +kernel)
   have oa:Wo 1 "a":=Wo.of (by decide +kernel)
   have om:Wo 1 "-":=Wo.of (by decide +kernel)
   simp [qc4 o0 hxw (by omega),qc4 hxw oa (by omega),qc4 hxw o0 (by omega),qc4 om hxw (by omega),qvo hxw (by omega)]
   rw[qba (by simp)]
   simp
   rw[qa]
   simp [lk,st0]
   refine qav hc2 (by decide) (by decide) fun r3 c3 a3 b3 hc3=> ?_
   obtain ⟨y,hy,e⟩:=qqz (ws:=["0"++x,x++"a",x++"0","-"++x,Txt.mul x 3]) a3 (by simpa using b3)
   have hyw:Wo (3 * L+1) y:=by
     simp only [List.mem_cons,List.not_mem_nil,or_false]at hy
     rcases hy with rfl | rfl | rfl | rfl | rfl
     · exact(o0.app hxw).mono (by omega)
     · exact(hxw.app oa).mono (by omega)
     · exact(hxw.app o0).mono (by omega)
     · exact(om.app hxw).mono (by omega)
     · exact⟨fun c h=>hxw.sg c (q5i.1 c h),by have:=(q5i (x:=x)).2;have:=hxw.ln;omega⟩
   simp only [List.map_cons,List.map_nil]at e
   simp [e]
   rw[qba (by simp)]
   simp
   rw[qb3 (by simp;omega)]
   simp [lk,sf1]
   rw[qb3 (by simp;omega)]
   simpa using fin a (a+1) y c3 (by omega) hyw hc3
 rw[qa]
 simp
 rw[qa]
 obtain ⟨zs,hzs⟩:∃ zs,zs=qml:=⟨_,rfl⟩
 have zw:Wo 99 zs:=hzs ▸ qpz
 have zl:1≤zs.length:=hzs ▸ qol
 rw[show (" !\"#$&'()*+,-./0123456789:;<=>?@ABCDEFGHIJKLMNOPQRSTUVWXYZ[\\]^_`abcdefghijklmnopqrstuvwxyz{|}~\n":Str)=zs from hzs.symm]
 have zn:=zw.ln
 have le:∀ S,biF .len [.str zs] S=.ok (.int zs.length) S:=fun S=>len_str (by omega)
 simp [le]
 refine qav hc2 (by omega) (by omega) fun r3 c3 a3 b3 hc3=> ?_
 obtain ⟨sg,hsg,eg⟩:=qym zw (by omega) a3 b3
 simp [eg]
 rw[qa]
 have lx:∀ S,biF .len [.str x] S=.ok (.int x.length) S:=fun S=>len_str (by have:=hxw.ln;omega)
 simp [lk,ix,lx]
 have xn:=hxw.ln
 refine qav hc3 (by omega) (by omega) fun r4 c4 a4 b4 hc4=> ?_
 ((try simp);rw[qa];try simp [lk,ix,qkr (show (0:Int) < 2 by decide)])
 rw[qq0 hxw (by omega)]
 simp
 rw[qc4 hxw.slice hsg (by omega)]
 simp
 rw[qq0 hxw (by omega)]
 simp
 rw[qc4 (hxw.slice.app hsg) hxw.slice (by omega)]
 have yw:=(((hxw.slice (l:=none) (u:=some r4)).app hsg).app (hxw.slice (l:=some (r4+way % 2)) (u:=none))).mono (show L+1+L≤3 * L+1 by omega)
 generalize Txt.slice x none (some r4)++sg++Txt.slice x (some (r4+way % 2)) none=y at yw
 simp
 rw[qa]
 simp [lk,st0,sf1]
 rw[qba (by simp)]
 simp
 rw[qb3 (by simp;omega)]
 simp
 rw[qb3 (by simp;omega)]
 simpa using fin a (a+1) y c4 (by omega) yw hc4
theorem q2i {r:Out (Fl × Env)} (h:Ok r fun x _=>x.1=.rt (.bl true)):∃ Γ' S',r=.ok (.rt (.bl true),Γ') S':=by
 unfold Ok at h
 cases r with
 | ok a S=>obtain ⟨fl,Γ⟩:=a;cases h;exact⟨Γ,S,rfl⟩
 | err x S=>exact h.elim
 | no=>exact h.elim
theorem qyn {ms:List Int}:qdk (quo ms):=⟨ms,0,0,17,rfl,by decide,by decide,by decide⟩
theorem qvp {L:Nat}:∀ ws:List Str,(∀ w ∈ ws,Wo L w)→(ws.map (·.length)).sum≤L * ws.length
 | [],_=>by simp
 | w::ws,h=>by
   have h1:=(h w (.head _)).ln
   have h2:=qvp ws fun w hw=>h w (.tail _ hw)
   simp only [List.map_cons,List.sum_cons,List.length_cons,Nat.mul_succ]
   omega
theorem qy6 {c:Nat}:∀ {ps:List (List Nat)} {d:Nat},d ∈ jn c ps→d=c∨∃ p ∈ ps,d ∈ p
 | [],d,h=>by simp [jn]at h
 | [a],d,h=>.inr ⟨a,.head _,h⟩
 | a ::b::r,d,h=>by
   rw[show jn c (a::b::r)=a++c::jn c (b::r) from rfl]at h
   rcases List.mem_append.mp h with h | h
   · exact .inr ⟨a,.head _,h⟩
   · rcases List.mem_cons.mp h with h | h
     · exact .inl h
     · rcases qy6 h with h | ⟨p,hp,h⟩
       · exact .inl h
       · exact .inr ⟨p,.tail _ hp,h⟩
theorem qyo {ws:List Str} (h:Ws 7 120 ws):Asc (Str.join " " ws)∧(ws.map (·.length)).sum+ws.length * (" ":Str).length≤16777216:=by
 have h1:=h.hi
 have h2:=qvp ws h.wo
 have h3:120 * ws.length≤840:=by omega
 have e:(" ":Str).length=1:=by decide +kernel
 refine⟨⟨fun c hc=> ?_,?_⟩,by rw[e];omega⟩
 · rw[blank,qi7]at hc
   rcases qy6 hc with rfl | ⟨p,hp,hc⟩
   · decide
   · obtain ⟨w,hw,rfl⟩:=List.mem_map.mp hp
     exact(h.wo w hw).sg c hc
 · rw[blank]
   have:=qoa (c:=32) ws
   omega
theorem Ws.mono {n m L K:Nat} {ws:List Str} (h:Ws n L ws) (a:n≤m) (b:L≤K):Ws m K ws:=⟨h.lo,Nat.le_trans h.hi a,fun w hw=>(h.wo w hw).mono b⟩
theorem qp0 (a:Addr) (ms:List Int) (Q:Fl × Env→Sto→Prop) (hR:∀ Γ S,Q (.rt (.bl true),Γ) S):Ok (qaf qbo qa6 qeh (some (.at_ a)::some (.ref 0)::List.replicate 5 none) [quo ms]) Q:=by
 unfold qeh
 obtain ⟨es,hes⟩:∃ es:Str,es="":=⟨_,rfl⟩
 have ea:Asc es:=hes ▸ ⟨by decide +kernel,by decide +kernel⟩
 have bad0:∀ S (P:D→Sto→Prop),P (.tup [.non,qsd]) S→Ok (ql [.str es] S) P:=fun S P q =>
   qfu (qvi (w:="") (rs:=[]) (by rw[hes];decide +kernel) (by rw[hes];decide +kernel) (by decide +kernel)) q
 have s2:sizeOk 2=true:=qal (by decide)
 rw[qa]
 simp
 rw[← hes]
 refine bad0 _ _ ?_
 rw[qba (by simp)]
 simp [s2]
 refine qoj _ _ ?_
 simp
 rw[qa]
 simp
 rw[qed (show qih 3=true by decide),show ((3:Int).toNat)=3 from rfl,qee]
 simp
 obtain ⟨J,hJ⟩:∃ J:Nat→Env→Sto→Prop,∀ i Γ S',J i Γ S'↔(∃ (c:Cell) (T:Sto) (v2 v3 v4 v5 v6:Option D),S'=c::T∧qdk c∧Γ=[some (.at_ a),some (.ref 0),v2,v3,v4,v5,v6]):=⟨_,fun _ _ _=>Iff.rfl⟩
 refine qhp (Iv:=J) ((hJ _ _ _).mpr ⟨_,[],none,none,none,none,none,rfl,qyn,rfl⟩) (fun i Γ S' _=>qb2) (fun i d Γ S' hd h=> ?_) fun Γ S' h=> ?_
 · obtain ⟨c,T,v2,v3,v4,v5,v6,rfl,hc,rfl⟩:=(hJ _ _ _).mp h
   have hi:i < 3:=by have:=(List.getElem?_eq_some_iff.mp hd).1;simpa using this
   rw[qgj hi]at hd
   cases hd
   simp
   rw[qa]
   simp
   refine qpy hc fun ws c1 T1 hw hc1=> ?_
   rw[qa]
   simp
   refine qav hc1 (by decide) (by decide) fun r c2 r0 r1 hc2=> ?_
   obtain ⟨m,rfl⟩:=Int.eq_ofNat_of_zero_le r0
   have hm:m≤2:=by omega
   rw[qed (qhq (show m≤20 by omega)),qee]
   simp
   obtain ⟨J2,hJ2⟩:∃ J2:Nat→Env→Sto→Prop,∀ k Γ S',J2 k Γ S'↔(∃ (c:Cell) (ws:List Str) (v4:Option D),S'=c::T1∧qdk c∧(k=0∧Ws 4 10 ws∨k=1∧Ws 5 31 ws∨k=2∧Ws 6 94 ws)∧Γ=[some (.at_ a),some (.ref 0),some (.int i),some (.lst (ws.map D.str)),v4,v5,v6]):=⟨_,fun _ _ _=>Iff.rfl⟩
   refine qhp (Iv:=J2) ((hJ2 _ _ _).mpr ⟨c2,ws,_,rfl,hc2,.inl ⟨rfl,hw⟩,rfl⟩) (fun i Γ S' _=>qb2) (fun k d Γ S' hd h=> ?_) fun Γ S' h=> ?_
   · obtain ⟨c,ws,v4,rfl,hc,hk,rfl⟩:=(hJ2 _ _ _).mp h
     have hi:k < m:=by have:=(List.getElem?_eq_some_iff.mp hd).1;simpa using this
     rw[qgj hi]at hd
     cases hd
     generalize hwd:D.lst (ws.map D.str)=wd
     simp
     rw[qa]
     simp
     rcases hk with ⟨rfl,hk⟩ | ⟨rfl,hk⟩ | ⟨rfl,hk⟩
     · refine qet hc hk (by decide) (by decide) hwd fun vs c' hv hc'=> ?_
       simp
       exact(hJ2 _ _ _).mpr ⟨c',vs,_,rfl,hc',.inr (.inl ⟨rfl,hv⟩),rfl⟩
     · refine qet hc hk (by decide) (by decide) hwd fun vs c' hv hc'=> ?_
       simp
       exact(hJ2 _ _ _).mpr ⟨c',vs,_,rfl,hc',.inr (.inr ⟨rfl,hv⟩),rfl⟩
     · omega
   · obtain ⟨c,ws,v4,rfl,hc,hk,rfl⟩:=(hJ2 _ _ _).mp h
     have hw:Ws 7 120 ws:=by
       rcases hk with ⟨_,hk⟩ | ⟨_,hk⟩ | ⟨_,hk⟩
       · exact hk.mono (by decide) (by decide)
       · exact hk.mono (by decide) (by decide)
       · exact hk.mono (by decide) (by decide)
     clear hJ2 h hk
     obtain ⟨ha,hs⟩:=qyo hw
     generalize hwd:D.lst (ws.map D.str)=wd
     have jo:∀ S,mtF .join (.str " ") [wd] S=.ok (.str (Str.join " " ws)) S:=fun S=>qqu hwd hs
     simp
     rw[qa]
     simp
     refine⟨rfl,?_⟩
     rw[jo]
     generalize Str.join " " ws=tx at ha
     obtain ⟨w,rr,rd,tl⟩:=qvm ha
     simp
     rw[qa]
     simp
     refine rd _ _ fun X=> ?_
     simp [s2]
     rw[qa]
     rcases tl with ⟨rfl,tl⟩ | ⟨ps,rfl,_,pl,tl⟩
     · have e0:∀ S,qa2 .Is .non .non S=.ok (.bl true) S:=fun _=>rfl
       simp [e0]
       rw[qa]
       simp
       rw[qba (by simp)]
       simp [s2]
       rw[qa]
       simp
       refine tl _ _ ?_
       refine qoj _ _ ?_
       simp
       exact(hJ _ _ _).mpr ⟨c,_,_,_,_,_,_,rfl,hc,rfl⟩
     · have sf:=qsj (w:=w) pl
       have e0:∀ S,qa2 .Is (readOf w ps) .non S=.ok (.bl false) S:=fun _=>rfl
       generalize readOf w ps=rw at *
       simp [e0]
       rw[qa]
       simp
       refine tl _ _ ?_
       refine sf _ _ ?_
       simp
       exact(hJ _ _ _).mpr ⟨c,_,_,_,_,_,_,rfl,hc,rfl⟩
 · obtain ⟨c,T,v2,v3,v4,v5,v6,rfl,hc,rfl⟩:=(hJ _ _ _).mp h
   simp
   rw[qa]
   simp
   exact hR _ _
theorem qmm (a:Addr) (ms:List Int):∃ Γ' S',qaf qbo qa6 qeh (some (.at_ a)::some (.ref 0)::List.replicate 5 none) [quo ms]=.ok (.rt (.bl true),Γ') S' :=
 q2i (qp0 a ms _ fun _ _=>rfl)
end T3
namespace TH
open PySem PySem.W
theorem q5j {p:Program} {w:World} {m:Nat} {a:Option Value} {b n:Nat} {s:SharedT} {t:Thread} {r:Option (Flow × SharedT × Code × Pos)} (h:Fast.tw10110043849684766642 Fast.tw14364793385576792824 p w m a b n s t=r):segRunT treeTable p w m a b n s t=r:=by
 rw[Fast.te10110043849684766642,Fast.te14364793385576792824];exact h
noncomputable abbrev p0:Pos:=⟨0,0,0,0⟩
noncomputable abbrev an:Option Value:=some (.ref 6)
noncomputable def ob0 (P:Params):List Obj:=[boot_o_0 P,boot_o_1 P,boot_o_2 P,boot_o_3 P,boot_o_4 P,boot_o_5 P,boot_o_6 P,boot_o_7 P,boot_o_8 P,boot_o_9 P,boot_o_10 P,
 { cls:=.type "tuple",data:=.seq #[] },{ cls:=.none,data:=.fields #[] },
 { cls:=.type "code",data:=.fields #[.str "<module>" 182,.str "<module>" 183,.str "/claim/cut.py" 184,.int 1 0,.int 0 0,.int 0 0,.int 0 0,.int 0 0,.ref 11,.bool false,.int 181 0,.ref 12,.none,.none,.none,.none,.int 185 0,.int 1 0,.str "/claim/cut.py" 186] },
 { cls:=.type "frame",slots:= #[some (.ref 13),some (.ref 3),some (.ref 3),none,some (.str "__main__" 164),none,some (.ref 0)] }]
noncomputable def lsT:List Obj→Nat→BT→BT
 | [],_,t=>t
 | o::r,n,t=>lsT r (n+1) (t.ins n o)
noncomputable def tr0 (P:Params):BT:=lsT (ob0 P) 0 .nil
noncomputable abbrev stT (t:BT) (n k:Nat) (os:OsState):SharedT:=⟨t,n,{},#[],{},k,os⟩
noncomputable abbrev qmn (p:Program):Env:={ scope:=p.main.scope,locals:=mainNs,globals:=mainNs,cells:=[],code:=.ref 13,frame:=some 14 }
noncomputable abbrev topC (p:Program):Code:=.body (behindTheImports p) (qmn p)
structure Plain (p:Program):Prop where
 o:opening p=plainProg p.main.scope.names
 f:∀ s,fenceModules? p s=some s
 pre:∀ w os,topGo treeTable p w 11 an 12 ⟨boot_heap w.params,#[],boot_drawn,boot_toks,os⟩ (topStub p)=some ((stT (tr0 w.params) 15 187 os).abs,⟨denote treeTable (topC p),topC p,p0,[topFrame p0]⟩)
 blk:∀ w os,segRun treeTable p w 11 an 1 1 (stT (tr0 w.params) 15 187 os).abs (blockOf (behindTheImports p) (qmn p) (topC p) p0 [topFrame p0])=some (.next,(stT (tr0 w.params) 15 187 os).abs,topC p,p0)
theorem q5k (w:World):((boot_heap w.params).isNs mainGlobals && (#[]:Array GenState).size==0,(boot_heap w.params).objs.size,(boot_heap w.params).nsMap mainGlobals "__annotations__")=(true,11,an):=by
 revert w;intro w;kernel_rfl
theorem q7l {p:Program} {w:World} {s:Shared} {c:Code} {pos:Pos}:topRun treeTable p w 11 an 2 s ⟨doneF .next,c,pos,[topFrame p0]⟩=some s:=by
 obtain ⟨a,b,c,d,e⟩:=s
 rfl
noncomputable def At (p:Program) (w:World) (os:OsState) (N:Nat) (l:List Stmt) (s:SharedT) (pos:Pos):Prop :=
 ∀ M r,topRun treeTable p w 11 an M s.abs (restOf l (qmn p) (topC p) pos [topFrame p0])=some r→topRun treeTable p w 11 an (N+M) ⟨boot_heap w.params,#[],boot_drawn,boot_toks,os⟩ (topStub p)=some r
theorem at0 {p:Program} {w:World} {os:OsState} (hp:Plain p):At p w os 13 (behindTheImports p) (stT (tr0 w.params) 15 187 os) p0:=fun M r h=>by
 have:=go_top (hp.pre w os) (piece_block (hp.blk w os) h)
 rw[show 13+M=12+(1+M)by omega];exact this
noncomputable def lk (p q:Program) (loose:List Str) (Xt:Shared→Bool) {α:Type} (Yf:Shared→α) (w:World) (s:Shared) :=
 ((staticsOk (importedModules p.main.body) (boot_heap w.params) s.heap && namesBound p s.heap && gensDone s && laidKept (boot_heap w.params) s.heap),Fast.tw4187177175401517315 q loose (importedModules p.main.body) Xt true s,Yf s)
theorem left_at {p q:Program} {loose:List Str} {Xt:Shared→Bool} {α:Type} {Yf:Shared→α} {Ya:World→α} {N N' n:Nat} {l:List Stmt} {s:World→OsState→SharedT} {pos pos':Pos} (hp:Plain p) (hN:Nat.ble 600 N=true) (hM:Nat.ble (N'+(n+2)) N=true)
   (a:∀ w os,At p w os N' l (s w os) pos)
   (chk:∀ w,(fun os=>(Fast.tw10110043849684766642 Fast.tw14364793385576792824 p w 11 an 1 n (s w os) (piecesOf l (qmn p) (topC p) pos [topFrame p0])).map fun r=>(r.1,r.2.2,lk p q loose Xt Yf w r.2.1.abs))=fun _=>some (.next,(topC p,pos'),(true,openGood q loose,Ya w))):LeftO p q loose Xt Yf Ya N:=fun w=>by
 obtain ⟨⟨h,gs,d,k',os⟩,e,e'⟩:=Option.map_eq_some_iff.mp (boot_open hp.o hN hp.f w)
 obtain ⟨rfl,rfl,rfl,rfl⟩:h=boot_heap w.params∧gs=Array.mk []∧d=boot_drawn∧k'=boot_toks:=by simpa using e'
 obtain ⟨z1,z2,z3⟩:_∧_∧_:=by simpa only [Prod.mk.injEq]using q5k w
 obtain ⟨⟨f,s',c,x⟩,g,g'⟩:=Option.map_eq_some_iff.mp (congrFun (chk w) os)
 obtain ⟨rfl,⟨rfl,rfl⟩,l1,l2,l3⟩:f=.next∧(c=topC p∧x=pos')∧_∧_∧_:=by simpa only [lk,Prod.mk.injEq]using g'
 rw[← Fast.te4187177175401517315]at l2
 have r1:=a w os (n+2) s'.abs (by
   have:=piece_app (rest:=[]) (segRun_of (q5j g)) (piece_nil q7l)
   rw[List.append_nil]at this
   exact this)
 have r:=topRun_mono (N - (N'+(n+2))) _ _ _ _ r1
 rw[show N'+(n+2)+(N - (N'+(n+2)))=N by have:=Nat.le_of_ble_eq_true hM;omega]at r
 have t:topFrom treeTable p w N ⟨boot_heap w.params,#[],boot_drawn,boot_toks,os⟩=some s'.abs:=by
   unfold topFrom
   dsimp only
   rw[z1,z2,z3,r]
   show (match staticsOk (importedModules p.main.body) (boot_heap w.params) s'.abs.heap && namesBound p s'.abs.heap && gensDone s'.abs && laidKept (boot_heap w.params) s'.abs.heap with | true=>_ | false=>_)=_
   rw[l1]
 unfold openEnds
 rw[e]
 show (topFrom treeTable p w N _).map _=_
 rw[t]
 exact congrArg some (Prod.ext l2 l3)
theorem both {Q:World→Prop} (row:String) (h:∀ w:World,Q (w.withFollow row false)) (k:∀ w:World,Q (w.withFollow row true)) (w:World):Q w:=by
 have e:=World.withFollow_self w row
 cases hb:w.params.followText row <;> rw[hb]at e
 · rw[← e];exact h w
 · rw[← e];exact k w
end TH
set_option maxHeartbeats 4000000
namespace K52
open PySem PySem.Spec PyProof.Rows L2 T3
noncomputable def top (i : Nat) : Stmt := PySem.Challenge.pw_outlivers_k52_rows_read_or_refused.main.body.getD i (.Pass ⟨0, 0, 0, 0⟩)
noncomputable def bs:List Str:=["all","len","int","zip","tuple","list","isinstance","bool","str","range","ValueError"]
noncomputable abbrev qkx:Stmt:=top 10
noncomputable abbrev qg2:Stmt:=top 11
noncomputable abbrev qjb:Stmt:=top 12
noncomputable abbrev qg3:Stmt:=top 13
noncomputable abbrev qgn:Stmt:=top 16
noncomputable abbrev qgo:Stmt:=top 18
noncomputable abbrev qjc:Stmt:=top 19
noncomputable abbrev qe5:Stmt:=top 20
noncomputable abbrev qg4:Stmt:=top 21
noncomputable abbrev qg5:Stmt:=top 22
noncomputable abbrev qdi:Stmt:=top 23
noncomputable abbrev qjd:Stmt:=top 24
noncomputable abbrev qky:Stmt:=top 25
noncomputable abbrev qfv:Stmt:=top 26
noncomputable abbrev qct:Stmt:=top 27
noncomputable abbrev qeu:Stmt:=top 28
section
variable {P:Program} {w:World} {K:PySem.W.Frag} {mg:Str→Option Value} {base:Heap}
theorem qp1 {f:Addr} {fd:FuncData} (F:Fun K "_law_box" "_law_box" qgo f fd) (hz:mg "list"=none):qay P w K mg base CX0 1 f fd ["_law_script"] (T3.sp_box K):=by
 refine F.ok (qcl (N:=["_law_script"]) (by decide +kernel)) (fun vs H Q E h=> ?_) (fun cdv A outer s H vs Q E hr h=> ?_)
 · obtain ⟨a,ns,rfl,_⟩:=h
   rfl
 · obtain ⟨a,ns,rfl,hS,hl,k⟩:=h
   refine⟨_,(qe6 (qsr (qo0 (qah (qka (qwh (K:=K) rfl) rfl hz qk9 (qah (qmx (q6o (K:=K) rfl) (pv 0) qqd (qqe qh0)) qc6)) (qah qh0 (qah qh0 (qah qh0 qc6))))))),?_⟩
   refine⟨_,rfl,_,rfl,a,_,rfl,hS,fun p hp=> ?_⟩
   refine⟨p,_,rfl,.inl (SqL.of qj),fun c hc=> ?_⟩
   refine⟨by show 4≤sizeLine;decide,fun b hb=> ?_⟩
   have nbc:c ≠ b:=qab qj hb
   have hb1:qev H _:=qev.trans (qev.upd (o:=.lst (qg7 (ns.map V.int) none (some 63))) hp) (qev.upd (o:=.lst (qg7 (ns.map V.int) none (some 63))) hc)
   obtain ⟨ms,em⟩:=qrg ns none (some 63)
   refine k b c ms _ (hb1.free hb) ((qev.upd hp).free hc) nbc (hb1.trans (qev.upd hb)) qj ?_
   rw[qg nbc,qj,em]
end
theorem qp2:dOk ["text"] ["text"] qkx qks 0 bs qk qgi=true:=by decide +kernel
theorem qmo:dOk ["text"] ["text"] qg2 qgy 0 bs qk qd0=true:=by decide +kernel
theorem qom:dOk ["kind","word"] ["kind","word"] qjb qda 1 bs qk qe2=true:=by decide +kernel
theorem qmp:dOk ["kinds","words","things"] ["kinds","words"] qg3 qd3 2 bs qk qco=true:=by decide +kernel
theorem qp3:dOk ["text","words","things"] ["text"] qgn qz 3 bs qk qgk=true:=by decide +kernel
theorem qon:dOk ["_law_box_here","_law_many","_law_rest","_law_cell","_law_seed"] ["_law_box_here","_law_many"] qjc qpm 0 bs qk qe0=true:=by decide +kernel
theorem qmq:dOk ["_law_box_here","_law_many","_law_letters","_law_size","_law_place","_law_alike","_law_first","_law_rows","_law_k","_law_row_here"] ["_law_box_here","_law_many"] qg4 qat 1 bs qk qd1=true:=by decide +kernel
theorem qmr:dOk ["_law_word"] ["_law_word"] qg5 qg1 0 bs qk qd4=true:=by decide +kernel
theorem qgp:dOk ["_law_word"] ["_law_word"] qdi qbe 0 bs qk qb4=true:=by decide +kernel
theorem qoo:dOk ["_law_text","_law_words","_law_shape","_law_parts","_law_at","_law_word"] ["_law_text"] qjd qbr 1 bs qk qdd=true:=by decide +kernel
theorem qp4:dOk ["_law_box_here","_law_names_here","_law_word","_law_number"] ["_law_box_here"] qky qef 2 bs qk qgl=true:=by decide +kernel
theorem qj2:dOk ["_law_box_here","_law_words","_law_way","_law_at","_law_here","_law_some","_law_signs","_law_sign","_law_place","_law_word"] ["_law_box_here","_law_words"] qfv qdf 1 bs qk qde=true:=by decide +kernel
theorem qop:∀ d < 5,dOk ["_law_found","_law_due"] ["_law_found","_law_due"] qe5 (qe1 d) (d+1) bs qk qbi=true:=by decide +kernel
theorem q2j:qin ⟨["_law_script","_law_box_here","_law_turn","_law_words","_law_k","_law_text","_law_due"],qb qeu,fun _=>true,qa6,6,bs,qk⟩ qeh ((qq qeu).drop 1)=true:=by decide +kernel
noncomputable def en (P:Params) (x:Str) (t:Nat) (v:Value):DictEntry:={ hash:=PyData.keyHash P x,key:=.str x t,val:=v }
noncomputable def fo (st:Stmt) (x:Str) (kV dc pm:Value) (an:Option Addr) (c ct:Value) (sl:Array (Option Value)):Obj:=⟨.type "function",none,.func (PySem.W.fnOf x x (qau st) (qq st) (qb st) .none kV dc pm an c ct),sl⟩
noncomputable def fm (st:Stmt) (x q:Str) (dV kV dc pm:Value) (an:Option Addr) (c ct:Value) (sl:Array (Option Value)):Obj:=⟨.type "function",none,.func (PySem.W.fnOf x q (qau st) (qq st) (qb st) dV kV dc pm an c ct),sl⟩
noncomputable abbrev qje:Stmt:=(qht (top 1)).getD 0 (.Pass ⟨0,0,0,0⟩)
noncomputable abbrev qsm:Stmt:=(qht (top 2)).getD 0 (.Pass ⟨0,0,0,0⟩)
noncomputable abbrev qoq:Stmt:=(qht (top 3)).getD 0 (.Pass ⟨0,0,0,0⟩)
noncomputable abbrev qvq:Stmt:=(qht (top 4)).getD 0 (.Pass ⟨0,0,0,0⟩)
noncomputable def hp (P:Params):PySem.W.Frag:=[(2,({ cls:=.none,data:=Data.dict #[] }:Obj)),
 (3,({ cls:=.type "dict",data:=Data.dict #[en P "__name__" 165 (.str "law_outlivers_k52_rows_read_or_refused" 376),en P "__doc__" 166 (.none),en P "__package__" 167 (.none),en P "__loader__" 168 (.builtin "__main__.__loader__#opaque"),en P "__spec__" 169 (.none),en P "__annotations__" 170 (.ref 6),en P "__builtins__" 171 (.ref 4),en P "__file__" 173 (.str "/claim/cut.py" 172),en P "__cached__" 174 (.none),en P "OutError" 217 (.ref 32),en P "BadName" 242 (.ref 53),en P "NoDeed" 267 (.ref 73),en P "NoPage" 292 (.ref 92),en P "LETTERS" 296 (.str "abcdefghijklmnopqrstuvwxyz" 295),en P "FIGURES" 298 (.str "0123456789" 297),en P "MOST_LETTERS" 300 (.int 8 299),en P "MOST_FIGURES" 302 (.int 10 301),en P "is_name" 308 (.ref 99),en P "is_number" 314 (.ref 104),en P "thing_of" 322 (.ref 111),en P "things_of" 328 (.ref 116),en P "FORMS" 366 (.ref 117),en P "deed_of" 375 (.ref 133),en P "_law_box" 384 (.ref 140),en P "_law_take" 395 (.ref 147),en P "_law_same" 401 (.ref 152),en P "_law_names" 407 (.ref 157),en P "_law_named" 413 (.ref 162),en P "_law_is_number" 419 (.ref 167),en P "_law_read" 431 (.ref 174),en P "_law_row" 441 (.ref 181),en P "_law_spoilt" 457 (.ref 188),en P "_law_told_of_row" 467 (.ref 195),en P "law" 480 (.ref 202)] 34 }:Obj)),
 (22,({ cls:=.type "tuple",data:=Data.seq #[.str "" 201] }:Obj)),
 (28,({ cls:=.type "code",data:=Data.fields #[.str "__init__" 202,.str "OutError.__init__" 203,.str "/claim/cut.py" 204,.int 4 0,.int 3 0,.int 0 0,.int 0 0,.int 3 0,.ref 23,.bool true,.int 181 0,.ref 24,.none,.ref 25,.ref 26,.ref 27,.int 208 0,.int 4 0,.str "/claim/cut.py" 209] }:Obj)),
 (29,fm qje "__init__" "OutError.__init__" (.ref 22) (.none) (.none) (.str "outlivers.errors" 187) (none) (.ref 28) (.none) #[]),
 (31,({ cls:=.type "dict",data:=Data.dict #[en P "__module__" 196 (.str "outlivers.errors" 187),en P "__firstlineno__" 200 (.int 2 199),en P "__init__" 210 (.ref 29),en P "__static_attributes__" 212 (.ref 30),en P "__weakref__" 214 (.ref 33),en P "__doc__" 215 (.none)] 3 }:Obj)),
 (32,({ cls:=.type "type",data:=Data.cls { name:="OutError",bases:=[.type "ValueError"],mro:=[.ref 32,.type "ValueError",.type "Exception",.type "BaseException",.type "object"],ns:=31,qualname:="OutError",subclasses:=[.ref 53,.ref 73,.ref 92] },slots:= #[some (.ref 15),none,some (.str "OutError" 189),some (.str "OutError" 197),some (.builtin "ValueError.__new__"),some (.bool true)] }:Obj)),
 (43,({ cls:=.type "tuple",data:=Data.seq #[.str "" 230] }:Obj)),
 (49,({ cls:=.type "code",data:=Data.fields #[.str "__init__" 231,.str "BadName.__init__" 232,.str "/claim/cut.py" 233,.int 9 0,.int 2 0,.int 0 0,.int 0 0,.int 3 0,.ref 44,.bool true,.int 181 0,.ref 45,.none,.ref 46,.ref 47,.ref 48,.int 236 0,.int 9 0,.str "/claim/cut.py" 237] }:Obj)),
 (50,fm qsm "__init__" "BadName.__init__" (.ref 43) (.none) (.none) (.str "outlivers.errors" 187) (none) (.ref 49) (.none) #[]),
 (52,({ cls:=.type "dict",data:=Data.dict #[en P "__module__" 225 (.str "outlivers.errors" 187),en P "__firstlineno__" 229 (.int 7 228),en P "__init__" 238 (.ref 50),en P "__static_attributes__" 239 (.ref 51),en P "__doc__" 240 (.none)] 2 }:Obj)),
 (53,({ cls:=.type "type",data:=Data.cls { name:="BadName",bases:=[.ref 32],mro:=[.ref 53,.ref 32,.type "ValueError",.type "Exception",.type "BaseException",.type "object"],ns:=52,qualname:="BadName" },slots:= #[some (.ref 36),none,some (.str "BadName" 218),some (.str "BadName" 226),some (.builtin "ValueError.__new__"),some (.bool true)] }:Obj)),
 (63,({ cls:=.type "tuple",data:=Data.seq #[.str "" 255] }:Obj)),
 (69,({ cls:=.type "code",data:=Data.fields #[.str "__init__" 256,.str "NoDeed.__init__" 257,.str "/claim/cut.py" 258,.int 13 0,.int 2 0,.int 0 0,.int 0 0,.int 3 0,.ref 64,.bool true,.int 181 0,.ref 65,.none,.ref 66,.ref 67,.ref 68,.int 261 0,.int 13 0,.str "/claim/cut.py" 262] }:Obj)),
 (70,fm qoq "__init__" "NoDeed.__init__" (.ref 63) (.none) (.none) (.str "outlivers.errors" 187) (none) (.ref 69) (.none) #[]),
 (72,({ cls:=.type "dict",data:=Data.dict #[en P "__module__" 250 (.str "outlivers.errors" 187),en P "__firstlineno__" 254 (.int 11 253),en P "__init__" 263 (.ref 70),en P "__static_attributes__" 264 (.ref 71),en P "__doc__" 265 (.none)] 2 }:Obj)),
 (73,({ cls:=.type "type",data:=Data.cls { name:="NoDeed",bases:=[.ref 32],mro:=[.ref 73,.ref 32,.type "ValueError",.type "Exception",.type "BaseException",.type "object"],ns:=72,qualname:="NoDeed" },slots:= #[some (.ref 56),none,some (.str "NoDeed" 243),some (.str "NoDeed" 251),some (.builtin "ValueError.__new__"),some (.bool true)] }:Obj)),
 (88,({ cls:=.type "code",data:=Data.fields #[.str "__init__" 280,.str "NoPage.__init__" 281,.str "/claim/cut.py" 282,.int 17 0,.int 2 0,.int 0 0,.int 0 0,.int 3 0,.ref 83,.bool true,.int 181 0,.ref 84,.none,.ref 85,.ref 86,.ref 87,.int 285 0,.int 17 0,.str "/claim/cut.py" 286] }:Obj)),
 (89,fm qvq "__init__" "NoPage.__init__" (.none) (.none) (.none) (.str "outlivers.errors" 187) (none) (.ref 88) (.none) #[]),
 (91,({ cls:=.type "dict",data:=Data.dict #[en P "__module__" 275 (.str "outlivers.errors" 187),en P "__firstlineno__" 279 (.int 15 278),en P "__init__" 287 (.ref 89),en P "__static_attributes__" 289 (.ref 90),en P "__doc__" 290 (.none)] 2 }:Obj)),
 (92,({ cls:=.type "type",data:=Data.cls { name:="NoPage",bases:=[.ref 32],mro:=[.ref 92,.ref 32,.type "ValueError",.type "Exception",.type "BaseException",.type "object"],ns:=91,qualname:="NoPage" },slots:= #[some (.ref 76),none,some (.str "NoPage" 268),some (.str "NoPage" 276),some (.builtin "ValueError.__new__"),some (.bool true)] }:Obj)),
 (98,({ cls:=.type "code",data:=Data.fields #[.str "is_name" 303,.str "is_name" 304,.str "/claim/cut.py" 305,.int 25 0,.int 1 0,.int 0 0,.int 0 0,.int 3 0,.ref 95,.bool true,.int 181 0,.ref 96,.none,.none,.none,.ref 97,.int 306 0,.int 25 0,.str "/claim/cut.py" 307] }:Obj)),
 (99,fo qkx "is_name" (.none) (.none) (.str "outlivers.names" 293) (none) (.ref 98) (.none) #[]),
 (103,({ cls:=.type "code",data:=Data.fields #[.str "is_number" 309,.str "is_number" 310,.str "/claim/cut.py" 311,.int 27 0,.int 1 0,.int 0 0,.int 0 0,.int 3 0,.ref 100,.bool true,.int 181 0,.ref 101,.none,.none,.none,.ref 102,.int 312 0,.int 27 0,.str "/claim/cut.py" 313] }:Obj)),
 (104,fo qg2 "is_number" (.none) (.none) (.str "outlivers.names" 293) (none) (.ref 103) (.none) #[]),
 (110,({ cls:=.type "code",data:=Data.fields #[.str "thing_of" 315,.str "thing_of" 316,.str "/claim/cut.py" 317,.int 33 0,.int 2 0,.int 0 0,.int 0 0,.int 3 0,.ref 105,.bool true,.int 181 0,.ref 106,.none,.ref 107,.ref 108,.ref 109,.int 320 0,.int 33 0,.str "/claim/cut.py" 321] }:Obj)),
 (111,fo qjb "thing_of" (.none) (.none) (.str "outlivers.names" 293) (none) (.ref 110) (.none) #[]),
 (115,({ cls:=.type "code",data:=Data.fields #[.str "things_of" 323,.str "things_of" 324,.str "/claim/cut.py" 325,.int 39 0,.int 2 0,.int 0 0,.int 0 0,.int 3 0,.ref 112,.bool true,.int 181 0,.ref 113,.none,.none,.none,.ref 114,.int 326 0,.int 39 0,.str "/claim/cut.py" 327] }:Obj)),
 (116,fo qg3 "things_of" (.none) (.none) (.str "outlivers.names" 293) (none) (.ref 115) (.none) #[]),
 (117,({ cls:=.type "dict",data:=Data.dict #[en P "join" 331 (.ref 118),en P "pay" 334 (.ref 119),en P "draw" 337 (.ref 120),en P "tie" 340 (.ref 121),en P "untie" 343 (.ref 122),en P "bet" 346 (.ref 123),en P "drop" 350 (.ref 124),en P "blanks" 353 (.ref 125),en P "strike" 355 (.ref 126)] 9 }:Obj)),
 (118,({ cls:=.type "tuple",data:=Data.seq #[.str "name" 332,.str "number" 333] }:Obj)),
 (119,({ cls:=.type "tuple",data:=Data.seq #[.str "name" 335,.str "number" 336] }:Obj)),
 (120,({ cls:=.type "tuple",data:=Data.seq #[.str "name" 338,.str "number" 339] }:Obj)),
 (121,({ cls:=.type "tuple",data:=Data.seq #[.str "name" 341,.str "name" 342] }:Obj)),
 (122,({ cls:=.type "tuple",data:=Data.seq #[.str "name" 344,.str "name" 345] }:Obj)),
 (123,({ cls:=.type "tuple",data:=Data.seq #[.str "name" 347,.str "name" 348,.str "number" 349] }:Obj)),
 (124,({ cls:=.type "tuple",data:=Data.seq #[.str "name" 351,.str "name" 352] }:Obj)),
 (125,({ cls:=.type "tuple",data:=Data.seq #[.str "number" 354] }:Obj)),
 (126,({ cls:=.type "tuple",data:=Data.seq #[.str "number" 356] }:Obj)),
 (132,({ cls:=.type "code",data:=Data.fields #[.str "deed_of" 367,.str "deed_of" 368,.str "/claim/cut.py" 369,.int 46 0,.int 1 0,.int 0 0,.int 0 0,.int 3 0,.ref 127,.bool true,.int 181 0,.ref 128,.none,.ref 129,.ref 130,.ref 131,.int 373 0,.int 46 0,.str "/claim/cut.py" 374] }:Obj)),
 (133,fo qgn "deed_of" (.none) (.none) (.str "outlivers.pages" 329) (none) (.ref 132) (.none) #[]),
 (139,({ cls:=.type "code",data:=Data.fields #[.str "_law_box" 378,.str "_law_box" 379,.str "/claim/cut.py" 380,.int 55 0,.int 1 0,.int 0 0,.int 0 0,.int 3 0,.ref 134,.bool true,.int 181 0,.ref 135,.none,.ref 136,.ref 137,.ref 138,.int 382 0,.int 55 0,.str "/claim/cut.py" 383] }:Obj)),
 (140,fo qgo "_law_box" (.none) (.none) (.str "law_outlivers_k52_rows_read_or_refused" 376) (none) (.ref 139) (.none) #[]),
 (146,({ cls:=.type "code",data:=Data.fields #[.str "_law_take" 385,.str "_law_take" 386,.str "/claim/cut.py" 387,.int 57 0,.int 2 0,.int 0 0,.int 0 0,.int 3 0,.ref 141,.bool true,.int 181 0,.ref 142,.none,.ref 143,.ref 144,.ref 145,.int 393 0,.int 57 0,.str "/claim/cut.py" 394] }:Obj)),
 (147,fo qjc "_law_take" (.none) (.none) (.str "law_outlivers_k52_rows_read_or_refused" 376) (none) (.ref 146) (.none) #[]),
 (151,({ cls:=.type "code",data:=Data.fields #[.str "_law_same" 396,.str "_law_same" 397,.str "/claim/cut.py" 398,.int 73 0,.int 2 0,.int 0 0,.int 0 0,.int 3 0,.ref 148,.bool true,.int 181 0,.ref 149,.none,.none,.none,.ref 150,.int 399 0,.int 73 0,.str "/claim/cut.py" 400] }:Obj)),
 (152,fo qe5 "_law_same" (.none) (.none) (.str "law_outlivers_k52_rows_read_or_refused" 376) (none) (.ref 151) (.none) #[]),
 (156,({ cls:=.type "code",data:=Data.fields #[.str "_law_names" 402,.str "_law_names" 403,.str "/claim/cut.py" 404,.int 83 0,.int 2 0,.int 0 0,.int 0 0,.int 3 0,.ref 153,.bool true,.int 181 0,.ref 154,.none,.none,.none,.ref 155,.int 405 0,.int 83 0,.str "/claim/cut.py" 406] }:Obj)),
 (157,fo qg4 "_law_names" (.none) (.none) (.str "law_outlivers_k52_rows_read_or_refused" 376) (none) (.ref 156) (.none) #[]),
 (161,({ cls:=.type "code",data:=Data.fields #[.str "_law_named" 408,.str "_law_named" 409,.str "/claim/cut.py" 410,.int 97 0,.int 1 0,.int 0 0,.int 0 0,.int 3 0,.ref 158,.bool true,.int 181 0,.ref 159,.none,.none,.none,.ref 160,.int 411 0,.int 97 0,.str "/claim/cut.py" 412] }:Obj)),
 (162,fo qg5 "_law_named" (.none) (.none) (.str "law_outlivers_k52_rows_read_or_refused" 376) (none) (.ref 161) (.none) #[]),
 (166,({ cls:=.type "code",data:=Data.fields #[.str "_law_is_number" 414,.str "_law_is_number" 415,.str "/claim/cut.py" 416,.int 99 0,.int 1 0,.int 0 0,.int 0 0,.int 3 0,.ref 163,.bool true,.int 181 0,.ref 164,.none,.none,.none,.ref 165,.int 417 0,.int 99 0,.str "/claim/cut.py" 418] }:Obj)),
 (167,fo qdi "_law_is_number" (.none) (.none) (.str "law_outlivers_k52_rows_read_or_refused" 376) (none) (.ref 166) (.none) #[]),
 (173,({ cls:=.type "code",data:=Data.fields #[.str "_law_read" 420,.str "_law_read" 421,.str "/claim/cut.py" 422,.int 103 0,.int 1 0,.int 0 0,.int 0 0,.int 3 0,.ref 168,.bool true,.int 181 0,.ref 169,.none,.ref 170,.ref 171,.ref 172,.int 429 0,.int 103 0,.str "/claim/cut.py" 430] }:Obj)),
 (174,fo qjd "_law_read" (.none) (.none) (.str "law_outlivers_k52_rows_read_or_refused" 376) (none) (.ref 173) (.none) #[]),
 (180,({ cls:=.type "code",data:=Data.fields #[.str "_law_row" 432,.str "_law_row" 433,.str "/claim/cut.py" 434,.int 118 0,.int 1 0,.int 0 0,.int 0 0,.int 3 0,.ref 175,.bool true,.int 181 0,.ref 176,.none,.ref 177,.ref 178,.ref 179,.int 439 0,.int 118 0,.str "/claim/cut.py" 440] }:Obj)),
 (181,fo qky "_law_row" (.none) (.none) (.str "law_outlivers_k52_rows_read_or_refused" 376) (none) (.ref 180) (.none) #[]),
 (187,({ cls:=.type "code",data:=Data.fields #[.str "_law_spoilt" 442,.str "_law_spoilt" 443,.str "/claim/cut.py" 444,.int 127 0,.int 2 0,.int 0 0,.int 0 0,.int 3 0,.ref 182,.bool true,.int 181 0,.ref 183,.none,.ref 184,.ref 185,.ref 186,.int 455 0,.int 127 0,.str "/claim/cut.py" 456] }:Obj)),
 (188,fo qfv "_law_spoilt" (.none) (.none) (.str "law_outlivers_k52_rows_read_or_refused" 376) (none) (.ref 187) (.none) #[]),
 (194,({ cls:=.type "code",data:=Data.fields #[.str "_law_told_of_row" 458,.str "_law_told_of_row" 459,.str "/claim/cut.py" 460,.int 145 0,.int 1 0,.int 0 0,.int 0 0,.int 3 0,.ref 189,.bool true,.int 181 0,.ref 190,.none,.ref 191,.ref 192,.ref 193,.int 465 0,.int 145 0,.str "/claim/cut.py" 466] }:Obj)),
 (195,fo qct "_law_told_of_row" (.none) (.none) (.str "law_outlivers_k52_rows_read_or_refused" 376) (none) (.ref 194) (.none) #[]),
 (201,({ cls:=.type "code",data:=Data.fields #[.str "law" 468,.str "law" 469,.str "/claim/cut.py" 470,.int 153 0,.int 1 0,.int 0 0,.int 0 0,.int 3 0,.ref 196,.bool true,.int 181 0,.ref 197,.none,.ref 198,.ref 199,.ref 200,.int 478 0,.int 153 0,.str "/claim/cut.py" 479] }:Obj)),
 (202,fo qeu "law" (.none) (.none) (.str "law_outlivers_k52_rows_read_or_refused" 376) (none) (.ref 201) (.none) #[])]
noncomputable def ads:List Addr:=[2,3,22,28,29,31,32,43,49,50,52,53,63,69,70,72,73,88,89,91,92,98,99,103,104,110,111,115,116,117,118,119,120,121,122,123,124,125,126,132,133,139,140,146,147,151,152,156,157,161,162,166,167,173,174,180,181,187,188,194,195,201,202]
noncomputable def Q : Program := { PySem.Challenge.pw_outlivers_k52_rows_read_or_refused with main := { PySem.Challenge.pw_outlivers_k52_rows_read_or_refused.main with body := [top 1, top 2, top 3, top 4, top 6, top 7, top 8, top 9, top 10, top 11, top 12, top 13, top 15, top 16, top 18, top 19, top 20, top 21, top 22, top 23, top 24, top 25, top 26, top 27, top 28] } }
theorem q5l {P:Program} {w:World} {mg:Str→Option Value} {h:Heap} (X:(hp w.params).In h) (G:h.Ns mainGlobals mg):qim P w (hp w.params) mg qk:=by
 refine⟨fun p hq=> ?_,fun p hq=> ?_,fun p hq=> ?_⟩
 · simp only [qk,List.mem_cons,List.not_mem_nil,or_false]at hq
   rcases hq with rfl | rfl | rfl | rfl
   · exact⟨295,PySem.W.mg_of X G (show PySem.W.nsIn (hp w.params) mainGlobals "LETTERS"=some (some (qpa (Sum.inr "abcdefghijklmnopqrstuvwxyz") 295)) from rfl)⟩
   · exact⟨297,PySem.W.mg_of X G (show PySem.W.nsIn (hp w.params) mainGlobals "FIGURES"=some (some (qpa (Sum.inr "0123456789") 297)) from rfl)⟩
   · exact⟨299,PySem.W.mg_of X G (show PySem.W.nsIn (hp w.params) mainGlobals "MOST_LETTERS"=some (some (qpa (Sum.inl 8) 299)) from rfl)⟩
   · exact⟨301,PySem.W.mg_of X G (show PySem.W.nsIn (hp w.params) mainGlobals "MOST_FIGURES"=some (some (qpa (Sum.inl 10) 301)) from rfl)⟩
 · simp only [qk,List.mem_cons,List.not_mem_nil,or_false]at hq
   rcases hq with rfl
   · exact⟨117,PySem.W.mg_of X G (show PySem.W.nsIn (hp w.params) mainGlobals "FORMS"=some (some (.ref 117)) from rfl),qxz rfl rfl (.cons (.cons (.cons (.cons (.cons (.cons (.cons (.cons (.cons .nil))))))))) (by decide +kernel)⟩
 · simp only [qk,qy,List.mem_cons,List.not_mem_nil,or_false]at hq
   rcases hq with rfl | rfl | rfl | rfl | rfl | rfl | rfl | rfl | rfl
   · exact qb8 rfl (by show 2≤sizeLine;decide) (.cons ⟨_,rfl⟩ (.cons ⟨_,rfl⟩ .nil))
   · exact qb8 rfl (by show 2≤sizeLine;decide) (.cons ⟨_,rfl⟩ (.cons ⟨_,rfl⟩ .nil))
   · exact qb8 rfl (by show 2≤sizeLine;decide) (.cons ⟨_,rfl⟩ (.cons ⟨_,rfl⟩ .nil))
   · exact qb8 rfl (by show 2≤sizeLine;decide) (.cons ⟨_,rfl⟩ (.cons ⟨_,rfl⟩ .nil))
   · exact qb8 rfl (by show 2≤sizeLine;decide) (.cons ⟨_,rfl⟩ (.cons ⟨_,rfl⟩ .nil))
   · exact qb8 rfl (by show 3≤sizeLine;decide) (.cons ⟨_,rfl⟩ (.cons ⟨_,rfl⟩ (.cons ⟨_,rfl⟩ .nil)))
   · exact qb8 rfl (by show 2≤sizeLine;decide) (.cons ⟨_,rfl⟩ (.cons ⟨_,rfl⟩ .nil))
   · exact qb8 rfl (by show 1≤sizeLine;decide) (.cons ⟨_,rfl⟩ .nil)
   · exact qb8 rfl (by show 1≤sizeLine;decide) (.cons ⟨_,rfl⟩ .nil)
theorem all {l:PySem.W.OpenLaw} {w:World} {mg:Str→Option Value} {fa:Addr} {h:Heap} (X:(hp w.params).In h) (G:h.Ns mainGlobals mg) (hfa:mg "law"=some (.ref fa)):∃ fd:FuncData,(∀ (s:Shared) (v:Value),BindsTo s fd ⟨[v],[]⟩ [("_law_script",v)])∧∀ base:Heap,(hp w.params).In base→base.Ns mainGlobals mg→qay l.prog w (hp w.params) mg base CX0 60 fa fd ["_law_script"] (T3.sp_law (hp w.params)):=by
 have e:=hfa.symm.trans (PySem.W.mg_of X G (show PySem.W.nsIn (hp w.params) mainGlobals "law"=some (some (.ref 202)) from rfl))
 cases e
 have B:∀ b ∈ bs,mg b=none:=by
   intro b hb
   simp only [bs,List.mem_cons,List.not_mem_nil,or_false]at hb
   rcases hb with rfl | rfl | rfl | rfl | rfl | rfl | rfl | rfl | rfl | rfl | rfl <;> exact PySem.W.mg_none_of X G (by kernel_rfl)
 have M:qim l.prog w (hp w.params) mg qk:=q5l X G
 refine⟨PySem.W.fnOf "law" "law" (qau qeu) (qq qeu) (qb qeu) .none (.none) (.none) (.str "law_outlivers_k52_rows_read_or_refused" 376) (none) (.ref 201) (.none),fun s v=>.of_eq rfl,fun base _ _=> ?_⟩
 have mOutError:mg "OutError"=some (.ref 32):=PySem.W.mg_of X G (show PySem.W.nsIn (hp w.params) mainGlobals "OutError"=some (some (.ref 32)) from rfl)
 have mBadName:mg "BadName"=some (.ref 53):=PySem.W.mg_of X G (show PySem.W.nsIn (hp w.params) mainGlobals "BadName"=some (some (.ref 53)) from rfl)
 have mNoDeed:mg "NoDeed"=some (.ref 73):=PySem.W.mg_of X G (show PySem.W.nsIn (hp w.params) mainGlobals "NoDeed"=some (some (.ref 73)) from rfl)
 have mNoPage:mg "NoPage"=some (.ref 92):=PySem.W.mg_of X G (show PySem.W.nsIn (hp w.params) mainGlobals "NoPage"=some (some (.ref 92)) from rfl)
 have IO:qay l.prog w (hp w.params) mg base CX0 1 29 _ ["self","word","why"] (spO (hp w.params)):=qu7 (k:=0) (N:=["self","word","why"]) (st:=qje) (fns:=[]) (bs:=bs) (md:=qk) rfl rfl (qcl (by decide +kernel)) (by rfl) (by decide +kernel) (by decide +kernel) (by decide +kernel) (by decide +kernel) (B "ValueError" (by decide +kernel)) (fun env=>⟨_,rfl⟩)
 have CO:qu3 (hp w.params) 32 "__init__" 29:=⟨rfl,rfl,rfl,rfl,rfl⟩
 have MNoDeed:qeq (hp w.params) 73 70:=qvb rfl ⟨rfl,rfl,rfl,rfl⟩ (qx6 rfl rfl) rfl rfl rfl
 have ANoDeed:qiu (hp w.params) 73:=⟨rfl,rfl,rfl,rfl,rfl,rfl,rfl,rfl⟩
 have SNoDeed:qdc (hp w.params) 73 "word":=⟨rfl,⟨_,rfl,rfl,rfl,rfl,fun _=>rfl⟩,rfl⟩
 have HNoDeed:qiv (hp w.params) 73 32:=qvc rfl rfl rfl ⟨rfl,rfl,rfl,rfl⟩
 have INoDeed:qay l.prog w (hp w.params) mg base CX0 2 70 _ ["self","why"] (spB 73):=qr2 (k:=1) (N:=["self","why"]) (st:=qoq) (fns:=[]) (bs:=bs) (md:=qk) rfl rfl (qcl (by decide +kernel)) (by rfl) (by decide +kernel) (by decide +kernel) (by decide +kernel) mOutError CO IO (by decide) (q2c fun _ _ _ _=>rfl) MNoDeed SNoDeed (fun env=>⟨_,rfl⟩)
 have N_is_name:FnT CX0 l.prog w (hp w.params) mg base "is_name" 1 1 qec:=qbq (f:=99) (ps:=["text"]) X G rfl rfl rfl rfl (qip fun _=>rfl) B M .nil qp2
 have N_is_number:FnT CX0 l.prog w (hp w.params) mg base "is_number" 1 1 qcm:=qbq (f:=104) (ps:=["text"]) X G rfl rfl rfl rfl (qip fun _=>rfl) B M .nil qmo
 have N_thing_of:FnT CX0 l.prog w (hp w.params) mg base "thing_of" 2 2 qdb:=qbq (f:=111) (ps:=["kind","word"]) X G rfl rfl rfl rfl (qls fun _ _=>rfl) B M (.cons N_is_name (.cons N_is_number .nil)) qom
 have N_things_52:FnT CX0 l.prog w (hp w.params) mg base "things_of" 2 3 qao:=qbq (f:=116) (ps:=["kinds","words"]) X G rfl rfl rfl rfl (qls fun _ _=>rfl) B M (.cons N_thing_of .nil) qmp
 have N_deed_52:FnT CX0 l.prog w (hp w.params) mg base "deed_of" 1 4 qc3:=qbq (f:=133) (ps:=["text"]) X G rfl rfl rfl rfl (qip fun _=>rfl) B M (.cons N_things_52 .nil) qp3
 have N_law_box:=q3h (qp1 (P:=l.prog) (w:=w) (base:=base) (qf0 (K:=hp w.params) (f:=140) (st:=qgo) rfl rfl rfl) (B "list" (by decide +kernel))) (PySem.W.mg_of X G (show PySem.W.nsIn (hp w.params) mainGlobals "_law_box"=some (some (.ref 140)) from rfl)) rfl (.all (qip fun _=>rfl))
 have N_law_take:FnT CX0 l.prog w (hp w.params) mg base "_law_take" 2 1 qap:=qbq (f:=147) (ps:=["_law_box_here","_law_many"]) X G rfl rfl rfl rfl (qls fun _ _=>rfl) B M .nil qon
 have N_law_same:∀ d≤5,FnT CX0 l.prog w (hp w.params) mg base "_law_same" 2 (d+1) (qo d):=by
   intro d
   induction d with
   | zero=>intro _;exact q4z X G (f:=152) (st:=qe5) (ps:=["_law_found","_law_due"]) rfl rfl rfl rfl (qls fun _ _=>rfl) (qcl (N:=["_law_found","_law_due"]) (by decide +kernel))
   | succ d ih=>intro hd;exact qbq (f:=152) (ps:=["_law_found","_law_due"]) X G rfl rfl rfl rfl (qls fun _ _=>rfl) B M (.cons (ih (by omega)) .nil) (qop d (by omega))
 have N_law_same:=N_law_same 5 (Nat.le_refl _)
 have N_law_names:FnT CX0 l.prog w (hp w.params) mg base "_law_names" 2 2 qcn:=qbq (f:=157) (ps:=["_law_box_here","_law_many"]) X G rfl rfl rfl rfl (qls fun _ _=>rfl) B M (.cons N_law_take .nil) qmq
 have N_law_named:FnT CX0 l.prog w (hp w.params) mg base "_law_named" 1 1 qcr:=qbq (f:=162) (ps:=["_law_word"]) X G rfl rfl rfl rfl (qip fun _=>rfl) B M .nil qmr
 have N_law_is_number:FnT CX0 l.prog w (hp w.params) mg base "_law_is_number" 1 1 qbf:=qbq (f:=167) (ps:=["_law_word"]) X G rfl rfl rfl rfl (qip fun _=>rfl) B M .nil qgp
 have N_law_read:FnT CX0 l.prog w (hp w.params) mg base "_law_read" 1 2 qa5:=qbq (f:=174) (ps:=["_law_text"]) X G rfl rfl rfl rfl (qip fun _=>rfl) B M (.cons N_law_named (.cons N_law_is_number .nil)) qoo
 have N_law_row:FnT CX0 l.prog w (hp w.params) mg base "_law_row" 1 3 qeg:=qbq (f:=181) (ps:=["_law_box_here"]) X G rfl rfl rfl rfl (qip fun _=>rfl) B M (.cons N_law_take (.cons N_law_names .nil)) qp4
 have N_law_spoilt:FnT CX0 l.prog w (hp w.params) mg base "_law_spoilt" 2 2 qb9:=qbq (f:=188) (ps:=["_law_box_here","_law_words"]) X G rfl rfl rfl rfl (qls fun _ _=>rfl) B M (.cons N_law_take .nil) qj2
 have R_deed_52:=qx7 (P:=l.prog) (w:=w) (base:=base) (N:=["text","words","things"]) (ps:=["text"]) (k:=3) (b1:=qcp) (b2:=qcq) (q0:=qbw) (q1:=qby) (q2:=qbx) (bs:=bs) (md:=qk) (qf0 (K:=(hp w.params)) (f:=133) (st:=qgn) rfl rfl rfl) (qcl (by decide +kernel)) rfl (by decide +kernel) (by decide +kernel) (by decide +kernel) (by decide +kernel) (by decide +kernel) (by decide +kernel) B M (.cons N_things_52 .nil) mNoDeed MNoDeed INoDeed (by decide) (q2b fun _ _ _=>rfl)
 have N_law_told_of_row:FnT CX0 l.prog w (hp w.params) mg base "_law_told_of_row" 1 5 ql:=qun (qvd (ps:=["_law_text"]) (k:=4) (bs:=bs) (md:=qk) (p0:=qv) (p1:=qw) (cz:=qm) (cb:=qaq) (ca:=qa0) (gz:=qax) (i:=3) (j:=2) (hs:=[.bl true,.bl false,.bl false]) (qf0 (K:=(hp w.params)) (f:=195) (st:=qct) rfl rfl rfl) (qcl (N:=["_law_text","_law_found","_law_kinds","e"]) (by decide +kernel)) rfl B M (.cons N_deed_52 .nil) (by decide +kernel) (by decide +kernel) (by decide +kernel) ⟨⟨_,_,_,R_deed_52,by decide,PySem.W.mg_of X G (show PySem.W.nsIn (hp w.params) mainGlobals "deed_of"=some (some (.ref 133)) from rfl),rfl,.all (qip fun _=>rfl)⟩,HNoDeed,mOutError,(by decide +kernel),(by decide +kernel),(by decide +kernel),(by decide +kernel),(by decide +kernel),(by decide +kernel),by decide +kernel,⟨_,[.bl true,.bl false,.bl false],fun X R=>R.suite (by decide +kernel) (qah (R.isx (by decide +kernel) (by decide +kernel) (by decide +kernel) (B "isinstance" (by decide +kernel)) mNoDeed) (qah (R.isx (by decide +kernel) (by decide +kernel) (by decide +kernel) (B "isinstance" (by decide +kernel)) mNoPage) (qah (R.isx (by decide +kernel) (by decide +kernel) (by decide +kernel) (B "isinstance" (by decide +kernel)) mBadName) qc6 rfl) rfl) rfl),fun D σ H a h1 h2 q=>qr6 (by decide) (fun Q q=>(ql9 ANoDeed rfl h1 h2 (ql9 ANoDeed rfl h1 h2 (ql9 ANoDeed rfl h1 h2 q)))) q,fun w H=>⟨_,_,rfl,rfl,⟨_,_,rfl,rfl,⟨_,_,rfl,rfl,rfl⟩⟩⟩⟩,by decide⟩) (PySem.W.mg_of X G (show PySem.W.nsIn (hp w.params) mainGlobals "_law_told_of_row"=some (some (.ref 195)) from rfl)) rfl (.all (qip fun _=>rfl))
 exact(q10 (P:=l.prog) (w:=w) (base:=base) (qf0 (st:=qeu) rfl rfl rfl) (qcl (N:=["_law_script","_law_box_here","_law_turn","_law_words","_law_k","_law_text","_law_due"]) (by decide +kernel)) (by rfl) (by decide +kernel) (by decide +kernel) (by decide +kernel) (kb:=1) N_law_box (by decide) B M (.cons N_law_take (.cons N_law_same (.cons N_law_read (.cons N_law_row (.cons N_law_spoilt (.cons N_law_told_of_row .nil)))))) q2j qmm).mono (by decide)
theorem walk {l:PySem.W.OpenLaw} {q:Program} {loose:List Str} {XP:(Str→Option Value)→Heap→Prop} {d:DefRec} (hn:l.most=some 63) (hdf:d.params.defaults=[]) (hd:d.name="law"):PySem.W.WalkO q loose XP (PySem.W.InK hp) l.row.toRowW d [] (fun f vs=>PySem.call f vs) :=
 L2.walk_of (n:=63) (k:=60) (x:="_law_script") (CX:=fun _=>CX0) (sp:=fun w=>T3.sp_law (hp w.params)) hn (by decide) hdf ⟨rfl,by decide,by decide⟩ (fun _ _ Y=>Y) (fun w mg fa h X G e=>all X G (hd ▸ e)) (fun _ _ a ns hl _ hS=>⟨a,ns,rfl,hS,hl,fun _=>rfl⟩) fun _ _ _ _ _ z=>z
noncomputable abbrev hook:PySem.W.Hook:=PySem.W.kHook hp ads (fun _=>rfl)
noncomputable def dlaw:DefRec:=⟨"law",qau qeu,qq qeu,qb qeu,⟨153,0,167,15⟩⟩
noncomputable abbrev pg : Program := PySem.Challenge.pw_outlivers_k52_rows_read_or_refused
theorem plain:TH.Plain pg:=⟨by kernel_rfl,fun s=>by kernel_rfl,fun w os=>by kernel_rfl,fun w os=>by kernel_rfl⟩
theorem left : PySem.W.LeftO PySem.Challenge.pw_outlivers_k52_rows_read_or_refused Q ["OutError", "BadName", "NoDeed", "FORMS"] (fun s => PySem.W.xlAt Q [] s && PySem.W.recOk (PySem.W.RowW.records (PySem.W.OpenRow.toRowW PySem.Challenge.rw_outlivers_k52_rows_read_or_refused.row)) s) (PySem.W.Hook.obs hook) (PySem.W.Hook.val hook) 3480 :=
  TH.left_at (n := 1730) (pos' := ⟨153, 0, 167, 15⟩) plain (by decide) (by decide) (fun w os => TH.at0 plain) (TH.both "special-get-raises" (fun w => by kernel_rfl) (fun w => by kernel_rfl))
theorem said : PySem.Challenge.rw_outlivers_k52_rows_read_or_refused.wellSaid = true := by kernel_rfl
end K52
open PySem PySem.W PyProof.Rows
set_option maxRecDepth 100000 in
set_option maxHeartbeats 0 in
theorem PySem.Challenge.cw_outlivers_k52_rows_read_or_refused_holds : PySem.Challenge.rw_outlivers_k52_rows_read_or_refused.Holds := by
  refine holds_law K52.said fun said => ?_
  refine holds_open (q := K52.Q) (loose := ["OutError", "BadName", "NoDeed", "FORMS"]) (Xt := (fun s => PySem.W.xlAt K52.Q [] s && PySem.W.recOk (PySem.W.RowW.records (PySem.W.OpenRow.toRowW PySem.Challenge.rw_outlivers_k52_rows_read_or_refused.row)) s)) (XP := XL K52.Q []) (Yf := Hook.obs K52.hook) (Ya := Hook.val K52.hook) (YP := Hook.says K52.hook) (N := 3480) (d := K52.dlaw) (kwd := []) K52.left (Hook.of K52.hook) (Hook.keeps K52.hook) (fun s e => xl_of s (Bool.and_eq_true_iff.mp e).1) XL.keeps (by kernel_rfl) (by kernel_rfl) (by kernel_rfl) (fun s e => recFacts_of (Bool.and_eq_true_iff.mp e).2) (by rfl) (by first | assumption | decide +kernel) (by decide +kernel) ⟨rfl, rfl, rfl, rfl, rfl, by decide +kernel⟩ ?hw ?hc
  · w_witness2
  exact K52.walk (l := PySem.Challenge.rw_outlivers_k52_rows_read_or_refused) rfl (by kernel_rfl) (by kernel_rfl)
