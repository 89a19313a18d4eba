import PyProof.Rows.All
import Wide.All
import OpenK.AllK
import Wide.FinOn
import Lean
import PyProof.EqAt
import PyProof.EqKinds
import PyProof.TupleCall
import PyProof.EnumFor
import PyProof.EnumMake
import PyProof.StrOps2
import PySem.SetOps
import PyProof.Rows.SetFrom
import PyProof.CollectWalk
import PyProof.Rows.SortShell
import PyProof.SetRoads
import PyProof.ListRange
import PySem.Challenge.RW_tieword_k07_keys_and_a_finer_parting
set_option Elab.async false
set_option linter.all false
set_option maxRecDepth 100000
set_option compiler.extract_closed false
set_option bootstrap.genMatcherCode false
set_option genSizeOf false
set_option genSizeOfSpec false
namespace L2
open PySem PySem.Spec PyProof.Rows
noncomputable abbrev Key:=Sum Int Str
noncomputable def keyIs:Key→Value→Bool
  | .inl k,v=>Value.isInt k v
  | .inr x,v=>Value.isStrOf x v
noncomputable def keyH (w:World):Key→Int
  | .inl k=>hashInt k
  | .inr x=>hashStr w x
theorem keyIs_shape:∀ {k:Key} {v:Value},keyIs k v=true→(∃ i t,k=Sum.inl i∧v=Value.int i t)∨(∃ x t,k=Sum.inr x∧v=Value.str x t)
  | .inl i,v,h=>by
    obtain ⟨t,e⟩:=Value.isInt_shape (k:=i) (v:=v) h
    exact .inl ⟨i,t,rfl,e⟩
  | .inr x,v,h=>by
    obtain ⟨t,e⟩:=Value.isStrOf_shape (x:=x) (v:=v) h
    exact .inr ⟨x,t,rfl,e⟩
theorem keyIs_int (i:Int) (t:Tok):keyIs (.inl i) (.int i t)=true:=by simp [keyIs,Value.isInt]
theorem keyIs_str (x:Str) (t:Tok):keyIs (.inr x) (.str x t)=true:=by simp [keyIs,Value.isStrOf]
theorem key_ll (a b:Int):decide ((Sum.inl a:Key)=Sum.inl b)=(a == b):=by
  by_cases e:a=b
  · subst e; simp
  · have h:¬ (Sum.inl a:Key)=Sum.inl b:=fun q=>e (Sum.inl.inj q)
    rw [decide_eq_false h]
    exact (beq_eq_false_iff_ne.mpr e).symm
theorem key_rr (a b:Str):decide ((Sum.inr a:Key)=Sum.inr b)=decide (a=b):=by
  by_cases e:a=b
  · subst e; simp
  · have h:¬ (Sum.inr a:Key)=Sum.inr b:=fun q=>e (Sum.inr.inj q)
    rw [decide_eq_false h,decide_eq_false e]
theorem key_lr (a:Int) (b:Str):decide ((Sum.inl a:Key)=Sum.inr b)=false:=decide_eq_false (fun q=>nomatch q)
theorem key_rl (a:Str) (b:Int):decide ((Sum.inr a:Key)=Sum.inl b)=false:=decide_eq_false (fun q=>nomatch q)
noncomputable def mixKind (prog:Program) (w:World):PySem.KeyKind prog w Key where
  is:=keyIs
  hash:=keyH w
  inj:=fun v a b ha hb=>by
    rcases keyIs_shape ha with ⟨i,t,rfl,rfl⟩ | ⟨x,t,rfl,rfl⟩
    · rcases keyIs_shape hb with ⟨j,u,rfl,e⟩ | ⟨y,u,rfl,e⟩
      · injection e with e1 _; rw [e1]
      · exact nomatch e
    · rcases keyIs_shape hb with ⟨j,u,rfl,e⟩ | ⟨y,u,rfl,e⟩
      · exact nomatch e
      · injection e with e1 _; rw [e1]
  byValue:=fun k v h=>by
    rcases keyIs_shape h with ⟨i,t,rfl,rfl⟩ | ⟨x,t,rfl,rfl⟩ <;> rfl
  pyHash:=fun hv h=>by
    rcases keyIs_shape hv with ⟨i,t,rfl,rfl⟩ | ⟨x,t,rfl,rfl⟩
    · exact wpAny_pyHash_int h
    · exact wpAny_pyHash_str h
  eqBool:=fun hu hv h=>by
    rcases keyIs_shape hu with ⟨i,t,rfl,rfl⟩ | ⟨x,t,rfl,rfl⟩
    · rcases keyIs_shape hv with ⟨j,u,rfl,rfl⟩ | ⟨y,u,rfl,rfl⟩
      · rw [key_ll] at h; exact wpAny_eqBool_int h
      · rw [key_lr] at h; exact SeqAt.EqAt.int_str i t y u _ _ _ _ h
    · rcases keyIs_shape hv with ⟨j,u,rfl,rfl⟩ | ⟨y,u,rfl,rfl⟩
      · rw [key_rl] at h; exact SeqAt.EqAt.str_int x t j u _ _ _ _ h
      · rw [key_rr] at h; exact wpAny_eqBool_str h
  «strs»:=fun k x t v h=>by
    rcases keyIs_shape h with ⟨i,u,rfl,e⟩ | ⟨y,u,rfl,e⟩
    · exact nomatch e
    · injection e with e1 _
      subst e1
      cases v <;> rfl
theorem mixKind_int (prog:Program) (w:World) (i:Int) (t:Tok):(mixKind prog w).is (.inl i) (.int i t)=true:=keyIs_int i t
theorem mixKind_str (prog:Program) (w:World) (x:Str) (t:Tok):(mixKind prog w).is (.inr x) (.str x t)=true:=keyIs_str x t
inductive V where
  | non | bl (b:Bool) | int (i:Int) | str (x:Str) | byt (b:Array UInt8) | flt (b:UInt64) | ref (a:Addr) | ty (n:String)
noncomputable def RelV:V→Value→Prop
  | .non,u=>u=Value.none
  | .bl b,u=>u=Value.bool b
  | .int i,u=>∃ t,u=Value.int i t
  | .str x,u=>∃ t,u=Value.str x t
  | .byt b,u=>∃ t,u=Value.bytes b t
  | .flt b,u=>∃ t,u=Value.float b t
  | .ref a,u=>u=Value.ref a
  | .ty n,u=>u=Value.type n
noncomputable abbrev Vals:List V→List Value→Prop:=Paired RelV
theorem Vals.length {xs:List V} {us:List Value} (r:Vals xs us):xs.length=us.length:=Paired.length r
theorem Vals.get:∀ {xs:List V} {us:List Value} {i:Nat} {x:V},Vals xs us→xs[i]?=some x→∃ u,us[i]?=some u∧RelV x u
  | _,_,_,_,.nil,e=>by simp at e
  | _,_,0,_,.cons r _,e=>by simp at e; subst e; exact ⟨_,rfl,r⟩
  | _,_,i + 1,x,.cons _ t,e=>by
    obtain ⟨u,h1,h2⟩:=Vals.get (i:=i) (x:=x) t (by simpa using e)
    exact ⟨u,by simpa using h1,h2⟩
theorem Vals.append {xs ys:List V} {us ws:List Value} (h:Vals xs us) (s:Vals ys ws):Vals (xs++ys) (us++ws):=by
  induction h with
  | nil=>exact s
  | cons r _ ih=>exact .cons r ih
theorem Vals.take:∀ {xs:List V} {us:List Value} (n:Nat),Vals xs us→Vals (xs.take n) (us.take n)
  | _,_,0,_=>.nil
  | _,_,_ + 1,.nil=>.nil
  | _,_,n + 1,.cons r t=>.cons r (Vals.take n t)
theorem Vals.drop:∀ {xs:List V} {us:List Value} (n:Nat),Vals xs us→Vals (xs.drop n) (us.drop n)
  | _,_,0,r=>r
  | _,_,_ + 1,.nil=>.nil
  | _,_,n + 1,.cons _ t=>Vals.drop n t
noncomputable def RelO:Option V→Option Value→Prop
  | some v,some u=>RelV v u
  | none,none=>True
  | _,_=>False
noncomputable def KV {κ:Type}:List (κ×V)→List (κ×Value)→Prop:=Paired fun (p:κ×V) (q:κ×Value)=>p.1=q.1∧RelV p.2 q.2
noncomputable def kV:Key→V
  | .inl i=>.int i
  | .inr x=>.str x
inductive HO where
  /-- a list -/
  | lst (xs:List V)
  /-- a tuple (never changes) -/
  | tup (xs:List V)
  /-- a dict whose keys are ints and texts; one whose keys are tuples of ints and texts (the empty one is both) -/
  | dK (kvs:List (Key×V)) | dT (kvs:List (List Key×V))
  /-- a set of ints: its members,its size -/
  | set (S:Int→Bool) (n:Nat)
  /-- an instance of the class at C,its dict at dx,its attributes -/
  | ins (C dx:Addr) (fs:List (Str×V))
  /-- the dict of the instance at x -/
  | own (x:Addr)
  /-- the dict of an exception -/
  | xd (fs:List (Str×V))
  /-- a bound method,f of x -/
  | met (f x:Addr)
  /-- a range object lo,lo + 1,.. below hi -/
  | rng (lo hi:Int)
  /-- a thing that is known to the object (the script; a dict while a loop walks it): read,never written while it is so -/
  | frz (o:Obj) (u:HO)
  /-- a code object's table -/
  | tbl (ps:Array Value)
  /-- any other thing,by what is true of its one object (a def of one's own: SetO a S n:=HO.ext fun h=>..) -/
  | ext (φ:Heap→Prop)
noncomputable abbrev Hp:=Addr→Option HO
noncomputable def upd (H:Hp) (a:Addr) (o:HO):Hp:=fun b=>if b=a then some o else H b
theorem upd_same {H:Hp} {a:Addr} {o:HO}:upd H a o a=some o:=by unfold upd; rw [if_pos rfl]
theorem upd_ne {H:Hp} {a b:Addr} {o:HO} (h:b≠a):upd H a o b=H b:=by unfold upd; rw [if_neg h]
theorem ne_of {H:Hp} {a b:Addr} {o u:HO} (h:H a=some o) (h':H b=some u) (d:o≠u):a≠b:=by
  intro e; subst e; rw [h] at h'; exact d (Option.some.inj h')
theorem ne_of_none {H:Hp} {a b:Addr} {o:HO} (h:H a=some o) (h':H b=none):a≠b:=by
  intro e; subst e; rw [h] at h'; cases h'
section
variable (P:Program) (w:World)
noncomputable def ObjOk (H:Hp) (h:Heap) (a:Addr):HO→Prop
  | .lst xs=>xs.length≤sizeLine∧∃ (its:List Value) (n:Nat),Vals xs its∧h.get? a=some { cls:=.type "list",data:=.seq its.toArray n }
  | .tup xs=>xs.length≤sizeLine∧∃ its:List Value,Vals xs its∧IsTup h a its.toArray
  | .dK kvs=>kvs.length≤sizeLine∧(a == sysModules)=false∧∃ vs,KV kvs vs∧h.DictOf (mixKind P w) a vs
  | .dT kvs=>kvs.length≤sizeLine∧(a == sysModules)=false∧∃ xs:List (List Key×Addr×Value),
      Paired (fun (p:List Key×V) (q:List Key×Addr×Value)=>p.1=q.1∧H q.2.1=some (.tup (p.1.map kV))∧RelV p.2 q.2.2) kvs xs ∧
      ∃ o es ep,h.get? a=some o∧o.ExactDict∧o.data=.dict es ep∧es.toList=xs.map (entryOfKey (tupleKind (mixKind P w)))∧(xs.map (·.1)).Nodup
  | .set S n=>h.SetOf (intKind P w) a S n
  | .ins C dx fs=>H dx=some (.own a)∧fs.length≤1000∧dx≠a∧h.get? a=some (PySem.W.instObj C dx) ∧
      ∃ mA,h.Ns1 dx mA∧(∀ f,RelO (fs.lookup f) (mA f))∧PySem.Within mA (fs.map (·.1))
  | .own _=>∃ o,h.get? a=some o
  | .xd fs=>∃ mA,h.Ns1 a mA∧∀ f,RelO (fs.lookup f) (mA f)
  | .rng lo hi=>∃ t u v,h.get? a=some { cls:=.type "range",data:=.fields #[.int lo t,.int hi u,.int 1 v] }
  | .frz o u=>h.get? a=some o∧ObjOk H h a u
  | .tbl ps=>h.get? a=some { cls:=.none,data:=.fields ps }
  | .met f x=>h.get? a=some (PySem.W.methodObj (.ref f) (.ref x))
  | .ext φ=>φ h∧(∃ o,h.get? a=some o)∧∀ h1 h2:Heap,φ h1→(∀ o,h1.get? a=some o→h2.get? a=some o)→φ h2
noncomputable def HOk (H:Hp) (h:Heap):Prop:=∀ a o,H a=some o→ObjOk P w H h a o
end
section
variable {P:Program} {w:World} {H H':Hp} {h h':Heap} {a:Addr} {o:HO}
theorem ObjOk.lt (x:ObjOk P w H h a o):a < h.objs.size:=by
  cases o with
  | lst xs=>obtain ⟨_,_,_,_,e⟩:=x; exact Heap.lt_size e
  | tup xs=>obtain ⟨_,_,_,p⟩:=x; exact p.lt
  | dK kvs=>obtain ⟨_,_,_,_,o,_,_,e,_⟩:=x; exact Heap.lt_size e
  | dT kvs=>obtain ⟨_,_,_,_,o,_,_,e,_⟩:=x; exact Heap.lt_size e
  | set S n=>obtain ⟨o,_,_,_,e,_⟩:=x; exact Heap.lt_size e
  | ins C dx fs=>obtain ⟨_,_,_,e,_⟩:=x; exact Heap.lt_size e
  | own y=>obtain ⟨_,e⟩:=x; exact Heap.lt_size e
  | xd fs=>obtain ⟨_,⟨_,_,_,e,_⟩,_⟩:=x; exact Heap.lt_size e
  | rng lo hi=>obtain ⟨_,_,_,e⟩:=x; exact Heap.lt_size e
  | frz ob u=>obtain ⟨e,_⟩:=x; exact Heap.lt_size e
  | tbl ps=>exact Heap.lt_size (show h.get? a=some _ from x)
  | met f y=>exact Heap.lt_size (show h.get? a=some _ from x)
  | ext φ=>obtain ⟨_,⟨_,e⟩,_⟩:=x; exact Heap.lt_size e
theorem Paired.mapP {α β:Type} {F G:α→β→Prop} {l₁:List α} {l₂:List β} (h:Paired F l₁ l₂) (f:∀ a b,F a b→G a b):Paired G l₁ l₂:=by
  induction h with
  | nil=>exact .nil
  | cons r _ ih=>exact .cons (f _ _ r) ih
theorem ObjOk.stay (x:ObjOk P w H h a o) (k:∀ b u,(b=a∨H b=some (.own a))→h.get? b=some u→h'.get? b=some u)
    (ho:∀ b,H b=some (.own a)→H' b=some (.own a)) (ht:∀ b xs,H b=some (.tup xs)→H' b=some (.tup xs)):ObjOk P w H' h' a o:=by
  induction o with
  | lst xs=>obtain ⟨z,its,n,r,e⟩:=x; exact ⟨z,its,n,r,k _ _ (.inl rfl) e⟩
  | tup xs=>obtain ⟨z,its,r,ob,e,c⟩:=x; exact ⟨z,its,r,ob,k _ _ (.inl rfl) e,c⟩
  | dK kvs=>obtain ⟨z,y,vs,r,ob,es,ep,e,c⟩:=x; exact ⟨z,y,vs,r,ob,es,ep,k _ _ (.inl rfl) e,c⟩
  | dT kvs=>
    obtain ⟨z,y,xs,r,ob,es,ep,e,c⟩:=x
    exact ⟨z,y,xs,Paired.mapP r fun p q z=>⟨z.1,ht _ _ z.2.1,z.2.2⟩,ob,es,ep,k _ _ (.inl rfl) e,c⟩
  | set S n=>obtain ⟨ob,es,ep,t,e,c⟩:=x; exact ⟨ob,es,ep,t,k _ _ (.inl rfl) e,c⟩
  | ins C dx fs=>
    obtain ⟨d,z,ne,e,mA,⟨od,es,ep,e2,c⟩,r⟩:=x
    exact ⟨ho _ d,z,ne,k _ _ (.inl rfl) e,mA,⟨od,es,ep,k _ _ (.inr d) e2,c⟩,r⟩
  | own y=>obtain ⟨ob,e⟩:=x; exact ⟨ob,k _ _ (.inl rfl) e⟩
  | xd fs=>obtain ⟨mA,⟨od,es,ep,e,c⟩,r⟩:=x; exact ⟨mA,⟨od,es,ep,k _ _ (.inl rfl) e,c⟩,r⟩
  | rng lo hi=>obtain ⟨t,u,v,e⟩:=x; exact ⟨t,u,v,k _ _ (.inl rfl) e⟩
  | frz ob u ih=>obtain ⟨e,q⟩:=x; exact ⟨k _ _ (.inl rfl) e,ih q⟩
  | tbl ps=>
    have e:h.get? a=some { cls:=.none,data:=.fields ps }:=x
    show h'.get? a=some { cls:=.none,data:=.fields ps }
    exact k a _ (.inl rfl) e
  | met f y=>
    have e:h.get? a=some (PySem.W.methodObj (.ref f) (.ref y)):=x
    show h'.get? a=some (PySem.W.methodObj (.ref f) (.ref y))
    exact k a _ (.inl rfl) e
  | ext φ=>obtain ⟨p,⟨o,e⟩,st⟩:=x; exact ⟨st _ _ p fun o q=>k _ _ (.inl rfl) q,⟨o,k _ _ (.inl rfl) e⟩,st⟩
theorem HOk.lt (x:HOk P w H h) (e:H a=some o):a < h.objs.size:=(x a o e).lt
theorem HOk.fresh (x:HOk P w H h) (e:h.objs.size≤a):H a=none:=by
  cases q:H a with
  | none=>rfl
  | some u=>exact absurd (Nat.lt_of_lt_of_le (x.lt q) e) (Nat.lt_irrefl _)
theorem HOk.kept (x:HOk P w H h) (k:∀ b u,h.get? b=some u→h'.get? b=some u):HOk P w H h':=fun a o e=>
  (x a o e).stay (fun b u _ q=>k b u q) (fun _ q=>q) fun _ _ q=>q
theorem HOk.laid (x:HOk P w H h) (k:∀ b u,h.get? b=some u→h'.get? b=some u) (hp:h.objs.size≤a) (new:ObjOk P w (upd H a o) h' a o):HOk P w (upd H a o) h':=fun b u e=>by
  have hn:=x.fresh hp
  by_cases hb:b=a
  · subst hb; rw [upd_same] at e; cases e; exact new
  · rw [upd_ne hb] at e
    exact (x b u e).stay (fun c v _ q=>k c v q) (fun c q=>by rw [upd_ne (ne_of_none q hn)]; exact q) fun c xs q=>by rw [upd_ne (ne_of_none q hn)]; exact q
end
noncomputable def Rd (H:Hp) (a:Addr) (u:HO):Prop:=H a=some u∨∃ o,H a=some (.frz o u)
theorem Rd.ok {P:Program} {w:World} {H:Hp} {h:Heap} {a:Addr} {u:HO} (r:Rd H a u) (x:HOk P w H h):ObjOk P w H h a u:=by
  rcases r with r | ⟨o,r⟩
  · exact x a u r
  · obtain ⟨_,q⟩:=x a _ r
    exact q
noncomputable def Mut:Option HO→Prop
  | some (.lst _)=>True
  | some (.dK _)=>True
  | some (.dT _)=>True
  | some (.set _ _)=>True
  | some (.ins _ _ _)=>True
  | some (.ext _)=>True
  | _=>False
section
variable {P:Program} {w:World} {H:Hp} {h h':Heap} {x e:Addr} {o':HO}
theorem HOk.write (ok:HOk P w H h) (mu:Mut (H x)) (he:e=x∨H e=some (.own x)) (k:∀ b u,b≠e→h.get? b=some u→h'.get? b=some u) (heo:∃ u,h'.get? e=some u)
    (new:ObjOk P w (upd H x o') h' x o'):HOk P w (upd H x o') h':=fun b u q=>by
  have nown:∀ c y,H c=some (.own y)→c≠x:=fun c y r z=>by subst z; rw [r] at mu; exact mu
  have ntup:∀ c xs,H c=some (.tup xs)→c≠x:=fun c xs r z=>by subst z; rw [r] at mu; exact mu
  by_cases hb:b=x
  · subst hb; rw [upd_same] at q; cases q; exact new
  · rw [upd_ne hb] at q
    by_cases hbe:b=e
    · have q':H b=some (.own x):=by
        rcases he with z | z
        · exact absurd (hbe.trans z) hb
        · rw [hbe]; exact z
      rw [q] at q'; cases q'
      obtain ⟨v,hv⟩:=heo
      exact ⟨v,by rw [hbe]; exact hv⟩
    · refine (ok b u q).stay (fun c v hc r=>k c v ?_ r) (fun c r=>by rw [upd_ne (nown c b r)]; exact r) fun c xs r=>by rw [upd_ne (ntup c xs r)]; exact r
      rcases hc with rfl | hc
      · exact hbe
      · rintro rfl
        rcases he with z | z
        · exact nown c b hc z
        · rw [hc] at z; cases z; exact hb rfl
end
structure Un (fs ex:List Addr) (H H':Hp) (h h':Heap):Prop where
  keep:∀ b o,h.get? b=some o→H b=none→b∉fs→b∉ex→h'.get? b=some o
  slot:∀ b o,h.get? b=some o→H b=none→b∈fs→b∉ex→∃ sl,h'.get? b=some { o with slots:=sl }
  free:∀ b o,h.get? b=some o→H b=none→b∉ex→H' b=none
  there:∀ b o,h.get? b=some o→b∉ex→∃ o',h'.get? b=some o'
  tups:∀ b xs,H b=some (.tup xs)→H' b=some (.tup xs)
  frzs:∀ b o u,H b=some (.frz o u)→H' b=some (.frz o u)
  tbls:∀ b ps,H b=some (.tbl ps)→∃ more,H' b=some (.tbl (ps++more))
section
variable {fs fs' ex ex':List Addr} {H H1 H2:Hp} {h h1 h2 h':Heap} {a x e:Addr} {o:HO}
theorem Un.any (u:Un fs ex H H1 h h1) {b:Addr} {ob:Obj} (q:h.get? b=some ob) (n:H b=none) (hx:b∉ex):∃ sl,h1.get? b=some { ob with slots:=sl }:=by
  by_cases hb:b∈fs
  · exact u.slot b ob q n hb hx
  · exact ⟨ob.slots,u.keep b ob q n hb hx⟩
theorem Un.kept (k:∀ b u,h.get? b=some u→h'.get? b=some u):Un fs ex H H h h':=
  ⟨fun b ob q _ _ _=>k b ob q,fun b ob q _ _ _=>⟨ob.slots,k b ob q⟩,fun _ _ _ n _=>n,fun b ob q _=>⟨ob,k b ob q⟩,fun _ _ q=>q,fun _ _ _ q=>q,fun _ ps q=>⟨#[],by rw [q]; simp⟩⟩
theorem Un.refl:Un fs ex H H h h:=Un.kept fun _ _ q=>q
theorem Un.laid (k:∀ b u,h.get? b=some u→h'.get? b=some u) (hp:h.objs.size≤a) (hn:H a=none):Un fs ex H (upd H a o) h h' where
  keep:=fun b u q _ _ _=>k b u q
  slot:=fun b u q _ _ _=>⟨u.slots,k b u q⟩
  free:=fun b u q n _=>by rw [upd_ne (Nat.ne_of_lt (Nat.lt_of_lt_of_le (Heap.lt_size q) hp))]; exact n
  there:=fun b u q _=>⟨u,k b u q⟩
  tups:=fun b xs q=>by rw [upd_ne (ne_of_none q hn)]; exact q
  frzs:=fun b u xs q=>by rw [upd_ne (ne_of_none q hn)]; exact q
  tbls:=fun b ps q=>⟨#[],by rw [upd_ne (ne_of_none q hn),q]; simp⟩
theorem Un.write (mu:Mut (H x)) (he:e=x∨H e=some (.own x)) (k:∀ b u,b≠e→h.get? b=some u→h'.get? b=some u) (heo:∃ u,h'.get? e=some u):Un fs ex H (upd H x o) h h':=by
  have hx:∀ b,H b=none→b≠x:=fun b n z=>by subst z; rw [n] at mu; exact mu
  have hb:∀ b,H b=none→b≠e:=fun b n z=>by
    subst z
    rcases he with r | r
    · exact hx b n r
    · rw [n] at r; cases r
  have hm:∀ b u,H b=some u→¬ Mut (some u)→b≠x:=fun b u q nm z=>by subst z; rw [q] at mu; exact nm mu
  refine ⟨fun b u q n _ _=>k b u (hb b n) q,fun b u q n _ _=>⟨u.slots,k b u (hb b n) q⟩,fun b u q n _=>by rw [upd_ne (hx b n)]; exact n,fun b u q _=>?_,
    fun b xs q=>by rw [upd_ne (hm b _ q fun z=>z)]; exact q,fun b u xs q=>by rw [upd_ne (hm b _ q fun z=>z)]; exact q,fun b ps q=>⟨#[],by rw [upd_ne (hm b _ q fun z=>z),q]; simp⟩⟩
  by_cases hbe:b=e
  · subst hbe; exact heo
  · exact ⟨u,k b u hbe q⟩
end
noncomputable def trk (h:Heap) (H:Hp):List Addr:=(List.range h.objs.size).filter fun a=>(H a).isSome
noncomputable def hidT (h:Heap) (H:Hp):Heap:=PySem.W.hideAll h (trk h H)
theorem hidT_size (h:Heap) (H:Hp):(hidT h H).objs.size=h.objs.size:=PySem.W.hideAll_size _ _
theorem hidT_get {h:Heap} {H:Hp} {b:Addr} {o:Obj} (e:h.get? b=some o) (n:H b=none):(hidT h H).get? b=some o:=
  PySem.W.hideAll_get _ e fun hm=>by
    have q:(H b).isSome=true:=(List.mem_filter.mp hm).2
    rw [n] at q; simp at q
theorem of_hidT {h:Heap} {H:Hp} {b:Addr} {o:Obj} (e:(hidT h H).get? b=some o):h.get? b=some o∧H b=none:=by
  have e':h.get? b=some o:=PySem.W.of_hideAll (trk h H) e
  refine ⟨e',?_⟩
  cases q:H b with
  | none=>rfl
  | some x=>
    have hm:b∈trk h H:=List.mem_filter.mpr ⟨List.mem_range.mpr (Heap.lt_size e'),by simp [q]⟩
    have z:(hidT h H).get? b=none:=PySem.W.hideAll_none (trk h H) hm
    rw [z] at e; cases e
noncomputable def allNews (g h:Heap) (L:Addr):List (Addr×Obj):=(List.range h.objs.size).filterMap fun a=>if a=L∨(g.get? a).isSome=true then none else (h.get? a).map fun o=>(a,o)
noncomputable def rest (g h:Heap) (L d:Addr):List (Addr×Obj):=(allNews g h L).filter fun p=>decide (p.1≠d)
structure Mod (K:PySem.W.Frag) (mg:Str→Option Value) (base:Heap):Prop where
  kin:K.In base
  glob:base.Ns mainGlobals mg
  blt:∃ mb,base.Ns builtinsNs mb∧∀ x:Str,x ≠ "__name__"→mb x=bootBuiltins x
  nolimit:base.NoLimit
structure Cx where
  prog:Program
  w:World
  K:PySem.W.Frag
  mg:Str→Option Value
  base:Heap
  A:Around
  N:List Str
  s₀:Shared
  H₀:Hp
  env:Env
  outer:List Env
  stack:List Env
  ex:List Addr
  fn:Str→Bool
  calm:Bool
  pn:List (Addr×Obj)
  xe:Value→Shared→Prop
noncomputable def frs (l:List Env):List Addr:=l.filterMap (·.frame)
noncomputable abbrev Cx.fs (X:Cx):List Addr:=frs X.outer
noncomputable def Vis (sc:Scope) (x:Str):Prop:=sc.names.lookup x=some .local∨sc.names.lookup x=some .cell∨sc.names.lookup x=some .free
noncomputable def Loc (sc:Scope) (x:Str):Prop:=sc.names.lookup x=some .local∨sc.names.lookup x=some .cell
noncomputable def Look (env:Env) (h:Heap) (m:Str→Option Value) (x:Str) (u:Value):Prop:=
  (env.kindOf x=some .local∧m x=some u)∨((env.kindOf x=some .cell∨env.kindOf x=some .free)∧∃ c,env.cells.lookup x=some c∧h.IsCell c (some u))
structure Cx.Ok (X:Cx):Prop where
  mod:Mod X.K X.mg X.base
  kind:X.env.scope.kind=.function
  glob:X.env.globals=mainGlobals
  blt:X.env.builtins=builtinsNs
  above:X.s₀.heap.objs.size≤X.env.locals
  inj:∀ x y c,X.env.cells.lookup x=some c→X.env.cells.lookup y=some c→x=y
  has:∀ x,(X.env.kindOf x=some .cell∨X.env.kindOf x=some .free)→∃ c,X.env.cells.lookup x=some c
  cab:∀ x c,X.fn x=true→X.env.cells.lookup x=some c→X.s₀.heap.objs.size≤c
  hd:X.calm=true→X.A.handled=none
  frames:X.A.frames=some X.stack
  stk:X.stack=X.outer∨(X.stack=X.env::X.outer∧X.env.frame=some X.env.locals)
  exf:∀ b∈X.ex,b≠X.env.locals∧∀ x c,X.env.cells.lookup x=some c→c≠b
  bs:∀ b o,X.base.get? b=some o→X.s₀.heap.get? b=some o∧X.H₀ b=none
  bsz:X.base.objs.size≤X.s₀.heap.objs.size
  noex:∀ b o,X.base.get? b=some o→b∉X.ex
  exfs:∀ b∈X.ex,b∉X.fs
  funs:X.s₀.heap.FunFrames X.base X.outer
  frf:∀ b∈X.fs,X.H₀ b=none
structure Inv (X:Cx) (pins:List (Addr×Obj)) (σ:List (Option V)) (H:Hp) (s:Shared):Prop where
  ok:X.Ok
  os:s.os=X.s₀.os
  bare:AllBare s.gens
  base:Un X.fs X.ex X.H₀ H X.s₀.heap s.heap
  loc:∃ m,s.heap.Ns X.env.locals m∧∀ (i:Nat) (x:Str) (v:V),X.N[i]?=some x→σ[i]?=some (some v)→Vis X.env.scope x→∃ u,RelV v u∧Look X.env s.heap m x u
  cell:∀ x c,X.env.cells.lookup x=some c→∃ v,s.heap.IsCell c v
  free:H X.env.locals=none
  freeC:∀ x c,X.env.cells.lookup x=some c→H c=none
  pin:∀ p∈X.pn++pins,s.heap.get? p.1=some p.2∧H p.1=none∧p.1≠X.env.locals∧p.1∉X.fs∧∀ v,p.2.data≠.cell v
  hok:HOk X.prog X.w H s.heap
  len:σ.length=X.N.length
section
variable {X:Cx} {pins:List (Addr×Obj)} {σ:List (Option V)} {H H':Hp} {s:Shared} {h':Heap}
theorem Cx.Ok.nofr (ok:X.Ok) {b:Addr} {o:Obj} (e:X.base.get? b=some o):b∉X.fs:=fun hb=>by
  have:=(ok.funs.mem hb).1
  rw [e] at this; cases this
theorem Inv.bs (I:Inv X pins σ H s):∀ b o,X.base.get? b=some o→s.heap.get? b=some o∧H b=none:=fun b o e=>
  ⟨I.base.keep b o (I.ok.bs b o e).1 (I.ok.bs b o e).2 (I.ok.nofr e) (I.ok.noex b o e),I.base.free b o (I.ok.bs b o e).1 (I.ok.bs b o e).2 (I.ok.noex b o e)⟩
theorem Inv.bk (I:Inv X pins σ H s):∀ b o,X.base.get? b=some o→s.heap.get? b=some o:=fun b o e=>(I.bs b o e).1
theorem Inv.mod (I:Inv X pins σ H s):Mod X.K X.mg X.base:=I.ok.mod
theorem Inv.kIn (I:Inv X pins σ H s):X.K.In s.heap:=I.ok.mod.kin.keeps I.bk
theorem Inv.lt (I:Inv X pins σ H s):X.env.locals < s.heap.objs.size:=let ⟨_,hn,_⟩:=I.loc; hn.lt
theorem Inv.sz (I:Inv X pins σ H s):X.s₀.heap.objs.size≤s.heap.objs.size:=Nat.le_trans I.ok.above (Nat.le_of_lt I.lt)
theorem Inv.nofs (I:Inv X pins σ H s) {a:Addr} (h:s.heap.objs.size≤a):a∉X.fs:=fun hb=>by
  obtain ⟨_,o,ho,_⟩:=I.ok.funs.mem hb
  exact absurd (Nat.lt_of_lt_of_le (Heap.lt_size ho) (Nat.le_trans I.sz h)) (Nat.lt_irrefl _)
theorem Inv.cne (I:Inv X pins σ H s):∀ x c,X.env.cells.lookup x=some c→c≠X.env.locals:=fun x c e z=>by
  obtain ⟨v,o,ho,hd⟩:=I.cell x c e
  obtain ⟨m,⟨o',es,ep,ho',hd',_⟩,_⟩:=I.loc
  rw [z,ho'] at ho; cases ho; rw [hd'] at hd; cases hd
theorem Inv.funs (I:Inv X pins σ H s):s.heap.FunFrames X.base X.outer:=by
  have all:∀ (l:List Env),(∀ b∈frs l,b∈X.fs)→X.s₀.heap.FunFrames X.base l→s.heap.FunFrames X.base l:=by
    intro l
    induction l with
    | nil=>intro _ _; trivial
    | cons env r ih=>
      intro hs hl
      obtain ⟨hk,⟨L,o,hf,hn,ho,hd⟩,hr⟩:=hl
      have hL:L∈X.fs:=hs L (by unfold frs; rw [List.filterMap_cons,hf]; exact List.mem_cons_self)
      obtain ⟨sl,e⟩:=I.base.slot L o ho (I.ok.frf L hL) hL fun z=>I.ok.exfs L z hL
      exact ⟨hk,⟨L,_,hf,hn,e,hd⟩,ih (fun b hb=>hs b (by unfold frs; rw [List.filterMap_cons,hf]; exact List.mem_cons_of_mem _ hb)) hr⟩
  exact all X.outer (fun _ hb=>hb) I.ok.funs
theorem Inv.stack (I:Inv X pins σ H s):s.heap.FunFrames X.base X.stack:=by
  rcases I.ok.stk with e | ⟨e,hf⟩
  · rw [e]; exact I.funs
  · rw [e]
    obtain ⟨m,hn,_⟩:=I.loc
    refine .cons (by rw [I.ok.kind]; decide) hf hn ?_ I.funs
    exact Heap.get?_none_of_le (Nat.le_trans I.ok.bsz I.ok.above)
theorem Inv.stkSub (I:Inv X pins σ H s):∀ b∈frs X.stack,b∈X.env.locals::X.fs:=fun b hb=>by
  rcases I.ok.stk with e | ⟨e,hf⟩
  · rw [e] at hb; exact List.mem_cons_of_mem _ hb
  · rw [e] at hb
    unfold frs at hb
    rw [List.filterMap_cons,hf] at hb
    exact hb
theorem Inv.stkFree (I:Inv X pins σ H s):∀ b∈frs X.stack,H b=none:=fun b hb=>by
  rcases List.mem_cons.mp (I.stkSub b hb) with e | hb
  · rw [e]; exact I.free
  · obtain ⟨_,o,ho,_⟩:=I.ok.funs.mem hb
    exact I.base.free b o ho (I.ok.frf b hb) fun z=>I.ok.exfs b z hb
theorem Inv.step {g':Array GenState} {t':Nat} {d':Drawn} {ch:List Addr} (I:Inv X pins σ H s)
    (hch:∀ b∈ch,(b∈X.ex∨X.s₀.heap.objs.size≤b)∧b≠X.env.locals∧(∀ x c,X.env.cells.lookup x=some c→c≠b)∧∀ p∈X.pn++pins,p.1≠b)
    (keep:∀ b o,b≠X.env.locals→b∉X.fs→b∉ch→s.heap.get? b=some o→H b=none→h'.get? b=some o)
    (slot:∀ b o,b≠X.env.locals→b∈X.fs→b∉ch→s.heap.get? b=some o→H b=none→∃ sl,h'.get? b=some { o with slots:=sl }) (free:∀ b o,b∉ch→s.heap.get? b=some o→H b=none→H' b=none)
    (there:∀ b o,b∉ch→s.heap.get? b=some o→∃ o',h'.get? b=some o')
    (tups:∀ b xs,H b=some (.tup xs)→H' b=some (.tup xs)) (frzs:∀ b o u,H b=some (.frz o u)→H' b=some (.frz o u)) (tbls:∀ b ps,H b=some (.tbl ps)→∃ more,H' b=some (.tbl (ps++more)))
    (ns:∀ m,s.heap.Ns X.env.locals m→h'.Ns X.env.locals m) (hok:HOk X.prog X.w H' h') (hg:AllBare g') :
    Inv X pins σ H' { s with heap:=h',gens:=g',drawn:=d',toks:=t' }:=by
  have neL:∀ b o,X.s₀.heap.get? b=some o→b≠X.env.locals:=fun b o e=>Nat.ne_of_lt (Nat.lt_of_lt_of_le (Heap.lt_size e) I.ok.above)
  have neC:∀ b o,X.s₀.heap.get? b=some o→b∉X.ex→b∉ch:=fun b o e hx hb=>by
    rcases (hch b hb).1 with z | z
    · exact hx z
    · exact absurd (Nat.lt_of_lt_of_le (Heap.lt_size e) z) (Nat.lt_irrefl _)
  have cellK:∀ x c,X.env.cells.lookup x=some c→∀ v,s.heap.IsCell c v→h'.IsCell c v:=fun x c e v hh_=>by
    obtain ⟨o,ho,hd⟩:=hh_
    have nch:c∉ch:=fun z=>(hch c z).2.2.1 x c e rfl
    by_cases hc:c∈X.fs
    · obtain ⟨sl,q⟩:=slot c o (I.cne x c e) hc nch ho (I.freeC x c e)
      exact ⟨_,q,hd⟩
    · exact ⟨o,keep c o (I.cne x c e) hc nch ho (I.freeC x c e),hd⟩
  refine ⟨I.ok,I.os,hg,⟨fun b o e n hb hx=>?_,fun b o e n hb hx=>?_,fun b o e n hx=>?_,fun b o e hx=>?_,fun b xs e=>tups b xs (I.base.tups b xs e),fun b o xs e=>frzs b o xs (I.base.frzs b o xs e),fun b ps e=>?_⟩,?_,fun x c e=>?_,?_,fun x c e=>?_,fun p hp=>?_,hok,I.len⟩
  · exact keep b o (neL b o e) hb (neC b o e hx) (I.base.keep b o e n hb hx) (I.base.free b o e n hx)
  · obtain ⟨sl,e1⟩:=I.base.slot b o e n hb hx
    obtain ⟨sl',e2⟩:=slot b _ (neL b o e) hb (neC b o e hx) e1 (I.base.free b o e n hx)
    exact ⟨sl',e2⟩
  · obtain ⟨o',e1⟩:=I.base.there b o e hx
    exact free b o' (neC b o e hx) e1 (I.base.free b o e n hx)
  · obtain ⟨o',e1⟩:=I.base.there b o e hx
    exact there b o' (neC b o e hx) e1
  · obtain ⟨m1,e1⟩:=I.base.tbls b ps e
    obtain ⟨m2,e2⟩:=tbls b _ e1
    exact ⟨m1++m2,by rw [e2,Array.append_assoc]⟩
  · obtain ⟨m,hn,hl⟩:=I.loc
    refine ⟨m,ns m hn,fun i x v e1 e2 e3=>?_⟩
    obtain ⟨u,r,l⟩:=hl i x v e1 e2 e3
    refine ⟨u,r,?_⟩
    rcases l with l | ⟨k,c,e,z⟩
    · exact .inl l
    · exact .inr ⟨k,c,e,cellK x c e _ z⟩
  · obtain ⟨v,z⟩:=I.cell x c e
    exact ⟨v,cellK x c e v z⟩
  · obtain ⟨m,⟨o,_,_,ho,_⟩,_⟩:=I.loc
    exact free _ o (fun z=>(hch _ z).2.1 rfl) ho I.free
  · obtain ⟨v,o,ho,hd⟩:=I.cell x c e
    exact free c o (fun z=>(hch c z).2.2.1 x c e rfl) ho (I.freeC x c e)
  · obtain ⟨e,n,ne,nf,d⟩:=I.pin p hp
    have nch:p.1∉ch:=fun z=>(hch p.1 z).2.2.2 p hp rfl
    exact ⟨keep p.1 p.2 ne nf nch e n,free p.1 p.2 nch e n,ne,nf,d⟩
theorem Inv.un {t':Nat} (I:Inv X pins σ H s) (u:Un X.fs [] H H' s.heap h') (hok:HOk X.prog X.w H' h'):Inv X pins σ H' { s with heap:=h',toks:=t' }:=by
  obtain ⟨m,⟨o,es,ep,ho,r⟩,_⟩:=id I.loc
  obtain ⟨sl,hL⟩:=u.any ho I.free (by simp)
  exact I.step (g':=s.gens) (d':=s.drawn) (ch:=[]) (fun _ z=>nomatch z) (fun b o _ hb _ e n=>u.keep b o e n hb (by simp)) (fun b o _ hb _ e n=>u.slot b o e n hb (by simp)) (fun b o _ e n=>u.free b o e n (by simp)) (fun b o _ e=>u.there b o e (by simp)) u.tups u.frzs u.tbls (fun m' hm=>by
    obtain ⟨o',es',ep',ho',r'⟩:=hm
    rw [ho] at ho'; cases ho'
    exact ⟨_,es',ep',hL,r'⟩) hok I.bare
theorem Inv.call {g':Array GenState} {t':Nat} {d':Drawn} {ch:List Addr} (I:Inv X pins σ H s) (u:Un (frs X.stack) ch H H' s.heap h') (hok:HOk X.prog X.w H' h') (hg:AllBare g')
    (hch:∀ b∈ch,(b∈X.ex∨X.s₀.heap.objs.size≤b)∧b≠X.env.locals∧(∀ x c,X.env.cells.lookup x=some c→c≠b)∧∀ p∈X.pn++pins,p.1≠b) :
    Inv X pins σ H' { s with heap:=h',gens:=g',drawn:=d',toks:=t' }:=by
  obtain ⟨m,⟨o,es,ep,ho,r⟩,_⟩:=id I.loc
  obtain ⟨sl,hL⟩:=u.any ho I.free fun z=>(hch _ z).2.1 rfl
  exact I.step (ch:=ch) hch (fun b o hL hb hc e n=>u.keep b o e n (fun z=>(List.mem_cons.mp (I.stkSub b z)).elim hL hb) hc) (fun b o _ _ hc e n=>u.any e n hc) (fun b o hc e n=>u.free b o e n hc) (fun b o hc e=>u.there b o e hc) u.tups u.frzs u.tbls (fun m' hm=>by
    obtain ⟨o',es',ep',ho',r'⟩:=hm
    rw [ho] at ho'; cases ho'
    exact ⟨_,es',ep',hL,r'⟩) hok hg
theorem Inv.turned {t':Nat} {it:Addr} (I:Inv X pins σ H s) (k:∀ b o,b≠it→s.heap.get? b=some o→h'.get? b=some o) (hn:H it=none) (hL:it≠X.env.locals)
    (h1:it∈X.ex∨X.s₀.heap.objs.size≤it) (h2:∀ x c,X.env.cells.lookup x=some c→c≠it) (h3:∀ p∈X.pn++pins,p.1≠it):Inv X pins σ H { s with heap:=h',toks:=t' }:=by
  have nit:∀ b u,H b=some u→b≠it:=fun b u e z=>by rw [z,hn] at e; cases e
  refine I.step (g':=s.gens) (d':=s.drawn) (ch:=[it]) (fun b hb=>?_) (fun b o _ _ hc e _=>k b o (fun z=>hc (by simp [z])) e) (fun b o _ _ hc e _=>⟨o.slots,k b o (fun z=>hc (by simp [z])) e⟩) (fun _ _ _ _ n=>n)
    (fun b o hc e=>⟨o,k b o (fun z=>hc (by simp [z])) e⟩) (fun _ _ e=>e) (fun _ _ _ e=>e) (fun b ps e=>⟨#[],by rw [e]; simp⟩) (fun m hm=>?_) (fun b u e=>?_) I.bare
  · have e:b=it:=by simpa using hb
    subst e
    exact ⟨h1,hL,h2,h3⟩
  · obtain ⟨o,es,ep,ho,r⟩:=hm
    exact ⟨o,es,ep,k _ o (Ne.symm hL) ho,r⟩
  · refine (I.hok b u e).stay (fun c v hc q=>k c v ?_ q) (fun _ q=>q) fun _ _ q=>q
    rcases hc with z | z
    · rw [z]; exact nit b u e
    · exact nit c _ z
theorem Inv.tok (I:Inv X pins σ H s) (t:Nat):Inv X pins σ H { s with toks:=t }:=I.un (h':=s.heap) (t':=t) Un.refl I.hok
theorem Inv.kept {t':Nat} (I:Inv X pins σ H s) (k:∀ b u,s.heap.get? b=some u→h'.get? b=some u):Inv X pins σ H { s with heap:=h',toks:=t' }:=I.un (Un.kept k) (I.hok.kept k)
theorem Inv.laid {a:Addr} {o:HO} {t':Nat} (I:Inv X pins σ H s) (k:∀ b u,s.heap.get? b=some u→h'.get? b=some u) (hp:s.heap.objs.size≤a) (new:ObjOk X.prog X.w (upd H a o) h' a o) :
    Inv X pins σ (upd H a o) { s with heap:=h',toks:=t' }:=I.un (Un.laid k hp (I.hok.fresh hp)) (I.hok.laid k hp new)
theorem Inv.write {x e:Addr} {o:HO} {t':Nat} (I:Inv X pins σ H s) (mu:Mut (H x)) (he:e=x∨H e=some (.own x)) (k:∀ b u,b≠e→s.heap.get? b=some u→h'.get? b=some u) (heo:∃ u,h'.get? e=some u)
    (new:ObjOk X.prog X.w (upd H x o) h' x o):Inv X pins σ (upd H x o) { s with heap:=h',toks:=t' }:=I.un (Un.write mu he k heo) (I.hok.write mu he k heo new)
theorem Inv.weak {σ':List (Option V)} (I:Inv X pins σ H s) (hl:σ'.length=σ.length) (w:∀ (i:Nat) v,σ'[i]?=some (some v)→σ[i]?=some (some v)):Inv X pins σ' H s:=
  ⟨I.ok,I.os,I.bare,I.base,let ⟨m,hn,hl'⟩:=I.loc; ⟨m,hn,fun i x v e1 e2 e3=>hl' i x v e1 (w i v e2) e3⟩,I.cell,I.free,I.freeC,I.pin,I.hok,hl.trans I.len⟩
theorem Inv.pins_of {pins':List (Addr×Obj)} (I:Inv X pins σ H s) (h:∀ p∈pins',s.heap.get? p.1=some p.2∧H p.1=none∧p.1≠X.env.locals∧p.1∉X.fs∧∀ v,p.2.data≠.cell v):Inv X pins' σ H s:=
  ⟨I.ok,I.os,I.bare,I.base,I.loc,I.cell,I.free,I.freeC,fun p hp=>(List.mem_append.mp hp).elim (fun z=>I.pin p (List.mem_append_left _ z)) (h p),I.hok,I.len⟩
theorem nodup_ix {N:List Str} (hN:N.Nodup) {i j:Nat} {x:Str} (a:N[i]?=some x) (b:N[j]?=some x):i=j:=by
  obtain ⟨h1,e1⟩:=List.getElem?_eq_some_iff.mp a
  obtain ⟨h2,e2⟩:=List.getElem?_eq_some_iff.mp b
  exact (List.getElem_inj hN).mp (e1.trans e2.symm)
theorem store_ok2 {M:Model} {A:Around} {E:Value→Shared→Prop} {i:Nat} {x:Str} {v:V} {u:Value} {Q:Unit→Shared→Prop} (I:Inv X pins σ H s) (hN:X.N.Nodup) (hi:X.N[i]?=some x) (hx:Loc X.env.scope x) (r:RelV v u)
    (h:∀ s',Inv X pins (σ.set i (some v)) H s'→(∃ a,Heap.SameBut a s.heap s'.heap∧(a=X.env.locals∨X.env.cells.lookup x=some a))→Q () s') (hf:X.fn x=true∨X.env.scope.names.lookup x=some .local:=by first | exact .inl rfl | exact .inr rfl | assumption):wpAny M A (storeName X.env x u) Q E s:=by
  obtain ⟨m,hn,hl⟩:=id I.loc
  have hcls:(X.env.scope.kind == .class||(X.env.scope.kind == .module&&X.env.locals != X.env.globals))=false:=by rw [I.ok.kind]; rfl
  have hiσ:i < σ.length:=by rw [I.len]; exact (List.getElem?_eq_some_iff.mp hi).1
  have cne:=I.cne
  have tracked:∀ {a:Addr} {h':Heap},(∃ o,s.heap.get? a=some o∧H a=none)→Heap.SameBut a s.heap h'→HOk X.prog X.w H h':=fun {a h'} ha hs b ob e=>by
    obtain ⟨_,_,hfree⟩:=ha
    refine (I.hok b ob e).stay (fun c w' hc q=>(hs.2 c ?_).trans q) (fun _ q=>q) fun _ _ q=>q
    rintro rfl
    rcases hc with rfl | hc
    · rw [hfree] at e; cases e
    · rw [hfree] at hc; cases hc
  rcases hx with hk | hk
  · refine wpAny_storeName_local hk hn (fun h' hn' hs=>?_) hcls
    obtain ⟨oL,_,_,hoL,_⟩:=id hn
    refine h _ ⟨I.ok,I.os,I.bare,⟨fun b o e n hb hx=>?_,fun b o e n hb hx=>?_,I.base.free,fun b o e hx=>?_,I.base.tups,I.base.frzs,I.base.tbls⟩,⟨_,hn',fun j y v' e1 e2 e3=>?_⟩,fun y c e=>?_,I.free,I.freeC,fun p hp=>?_,tracked ⟨oL,hoL,I.free⟩ hs,by simpa using I.len⟩ ⟨_,hs,.inl rfl⟩
    · exact (hs.2 b (Nat.ne_of_lt (Nat.lt_of_lt_of_le (Heap.lt_size e) I.ok.above))).trans (I.base.keep b o e n hb hx)
    · obtain ⟨sl,e1⟩:=I.base.slot b o e n hb hx
      exact ⟨sl,(hs.2 b (Nat.ne_of_lt (Nat.lt_of_lt_of_le (Heap.lt_size e) I.ok.above))).trans e1⟩
    · obtain ⟨o',e1⟩:=I.base.there b o e hx
      exact ⟨o',(hs.2 b (Nat.ne_of_lt (Nat.lt_of_lt_of_le (Heap.lt_size e) I.ok.above))).trans e1⟩
    · by_cases hj:j=i
      · subst hj
        rw [hi] at e1; cases e1
        rw [List.getElem?_set_self hiσ] at e2
        cases e2
        exact ⟨u,r,.inl ⟨hk,by simp⟩⟩
      · rw [List.getElem?_set_ne (Ne.symm hj)] at e2
        obtain ⟨u',r',q⟩:=hl j y v' e1 e2 e3
        refine ⟨u',r',?_⟩
        rcases q with ⟨k,e⟩ | ⟨k,c,e,z⟩
        · refine .inl ⟨k,?_⟩
          have:y≠x:=fun e=>hj (nodup_ix hN e1 (e ▸ hi))
          simp [this,e]
        · exact .inr ⟨k,c,e,z.sameBut hs (cne y c e)⟩
    · obtain ⟨w',z⟩:=I.cell y c e
      exact ⟨w',z.sameBut hs (cne y c e)⟩
    · obtain ⟨e,n,ne,nf,d⟩:=I.pin p hp
      exact ⟨(hs.2 p.1 ne).trans e,n,ne,nf,d⟩
  · have hfn:X.fn x=true:=by
      rcases hf with z | z
      · exact z
      · rw [z] at hk; cases hk
    obtain ⟨c,hc⟩:=I.ok.has x (.inl hk)
    obtain ⟨w',z⟩:=I.cell x c hc
    refine wpAny_storeName_cell I.ok.kind hk hc z (fun h' hc' hs=>?_)
    obtain ⟨oc,hoc,hocd⟩:=id z
    refine h { s with heap:=h' } ⟨I.ok,I.os,I.bare,⟨fun b o e n hb hx=>?_,fun b o e n hb hx=>?_,I.base.free,fun b o e hx=>?_,I.base.tups,I.base.frzs,I.base.tbls⟩,⟨m,hn.sameBut hs (Ne.symm (cne x c hc)),fun j y v' e1 e2 e3=>?_⟩,fun y c' e=>?_,I.free,I.freeC,fun p hp=>?_,tracked ⟨oc,hoc,I.freeC x c hc⟩ hs,by simpa using I.len⟩ ⟨c,hs,.inr hc⟩
    · exact (hs.2 b (Nat.ne_of_lt (Nat.lt_of_lt_of_le (Heap.lt_size e) (I.ok.cab x c hfn hc)))).trans (I.base.keep b o e n hb hx)
    · obtain ⟨sl,e1⟩:=I.base.slot b o e n hb hx
      exact ⟨sl,(hs.2 b (Nat.ne_of_lt (Nat.lt_of_lt_of_le (Heap.lt_size e) (I.ok.cab x c hfn hc)))).trans e1⟩
    · obtain ⟨o',e1⟩:=I.base.there b o e hx
      exact ⟨o',(hs.2 b (Nat.ne_of_lt (Nat.lt_of_lt_of_le (Heap.lt_size e) (I.ok.cab x c hfn hc)))).trans e1⟩
    · by_cases hj:j=i
      · subst hj
        rw [hi] at e1; cases e1
        rw [List.getElem?_set_self hiσ] at e2
        cases e2
        exact ⟨u,r,.inr ⟨.inl hk,c,hc,hc'⟩⟩
      · rw [List.getElem?_set_ne (Ne.symm hj)] at e2
        obtain ⟨u',r',q⟩:=hl j y v' e1 e2 e3
        refine ⟨u',r',?_⟩
        rcases q with q | ⟨k,c',e,z'⟩
        · exact .inl q
        · refine .inr ⟨k,c',e,z'.sameBut hs ?_⟩
          rintro rfl
          exact hj (nodup_ix hN e1 (I.ok.inj _ _ _ e hc ▸ hi))
    · by_cases hcc:c'=c
      · subst hcc; exact ⟨_,hc'⟩
      · obtain ⟨w2,z2⟩:=I.cell y c' e
        exact ⟨w2,z2.sameBut hs hcc⟩
    · obtain ⟨e,n,ne,nf,d⟩:=I.pin p hp
      refine ⟨(hs.2 p.1 ?_).trans e,n,ne,nf,d⟩
      intro q
      rw [q,hoc] at e
      have q':oc=p.2:=Option.some.inj e
      exact d w' (by rw [← q']; exact hocd)
theorem store_ok {M:Model} {A:Around} {E:Value→Shared→Prop} {i:Nat} {x:Str} {v:V} {u:Value} {Q:Unit→Shared→Prop} (I:Inv X pins σ H s) (hN:X.N.Nodup) (hi:X.N[i]?=some x) (hx:Loc X.env.scope x) (r:RelV v u)
    (h:∀ s',Inv X pins (σ.set i (some v)) H s'→Q () s') (hf:X.fn x=true∨X.env.scope.names.lookup x=some .local:=by first | exact .inl rfl | exact .inr rfl | assumption):wpAny M A (storeName X.env x u) Q E s:=
  store_ok2 I hN hi hx r (fun s' I' _=>h s' I') hf
theorem Inv.call' {s':Shared} {ch:List Addr} (I:Inv X pins σ H s) (ho:s'.os=s.os) (u:Un (frs X.stack) ch H H' s.heap s'.heap) (hok:HOk X.prog X.w H' s'.heap) (hg:AllBare s'.gens)
    (hch:∀ b∈ch,(b∈X.ex∨X.s₀.heap.objs.size≤b)∧b≠X.env.locals∧(∀ x c,X.env.cells.lookup x=some c→c≠b)∧∀ p∈X.pn++pins,p.1≠b):Inv X pins σ H' s':=by
  obtain ⟨h',g',d',t',o'⟩:=s'
  have e:o'=s.os:=ho
  subst e
  exact I.call (g':=g') (t':=t') (d':=d') u hok hg hch
end
noncomputable abbrev XK:=Value→Option Addr→Hp→Prop
noncomputable abbrev St:=List (Option V)
noncomputable abbrev VK:=V→Hp→Prop
noncomputable abbrev TE:=St→Hp→VK→Prop
noncomputable abbrev TT:=St→Hp→(Bool→Hp→Prop)→Prop
noncomputable abbrev TA:=St→Hp→(List V→Hp→Prop)→Prop
structure Ends where
  nx:St→Hp→Prop
  rt:VK
  bk:St→Hp→Prop:=fun _ _=>False
  ct:St→Hp→Prop:=fun _ _=>False
noncomputable abbrev TS:=Ends→St→Hp→Prop
noncomputable def EP (X:Cx) (pins:List (Addr×Obj)) (σ:St) (Q:VK) (u:Value) (s':Shared):Prop:=∃ v H',Inv X pins σ H' s'∧RelV v u∧Q v H'
noncomputable def TP (X:Cx) (pins:List (Addr×Obj)) (σ:St) (Q:Bool→Hp→Prop) (b:Bool) (s':Shared):Prop:=∃ H',Inv X pins σ H' s'∧Q b H'
noncomputable def AP (X:Cx) (pins:List (Addr×Obj)) (σ:St) (Q:List V→Hp→Prop) (us:List Value) (s':Shared):Prop:=∃ vs H',Inv X pins σ H' s'∧Vals vs us∧Q vs H'
noncomputable def SP (X:Cx) (pins:List (Addr×Obj)) (D:Ends) (f:Flow) (s':Shared):Prop:=
  match f with
  | .next=>∃ σ' H',Inv X pins σ' H' s'∧D.nx σ' H'
  | .brk=>∃ σ' H',Inv X pins σ' H' s'∧D.bk σ' H'
  | .cont=>∃ σ' H',Inv X pins σ' H' s'∧D.ct σ' H'
  | .ret u=>∃ v σ' H',Inv X pins σ' H' s'∧RelV v u∧D.rt v H'
noncomputable def PE (X:Cx) (e:Expr) (t:TE):Prop:=
  ∀ (pins:List (Addr×Obj)) (s:Shared) (σ:St) (H:Hp) (Q:VK),Inv X pins σ H s→t σ H Q→wpAny (model X.prog X.w) X.A (eval e X.env) (EP X pins σ Q) X.xe s
noncomputable def PT (X:Cx) (e:Expr) (t:TT):Prop:=
  ∀ (pins:List (Addr×Obj)) (s:Shared) (σ:St) (H:Hp) (Q:Bool→Hp→Prop),Inv X pins σ H s→t σ H Q→wpAny (model X.prog X.w) X.A (isTrue e X.env (eval e X.env)) (TP X pins σ Q) X.xe s
noncomputable def PW (X:Cx) (e:Expr) (t:TT):Prop:=
  ∀ (whole:Sem Value) (pins:List (Addr×Obj)) (s:Shared) (σ:St) (H:Hp) (Q:Bool→Hp→Prop),Inv X pins σ H s→t σ H Q→wpAny (model X.prog X.w) X.A (isTrue e X.env whole) (TP X pins σ Q) X.xe s
theorem PW.pt {X:Cx} {e:Expr} {t:TT} (h:PW X e t):PT X e t:=h _
noncomputable def PA (X:Cx) (es:List Expr) (t:TA):Prop:=
  ∀ (pos:Pos) (pins:List (Addr×Obj)) (s:Shared) (σ:St) (H:Hp) (Q:List V→Hp→Prop),Inv X pins σ H s→t σ H Q→wpAny (model X.prog X.w) X.A (spliced (backTo pos (starEach es X.env))) (AP X pins σ Q) X.xe s
noncomputable def PS (X:Cx) (st:Stmt) (t:TS):Prop:=
  ∀ (pins:List (Addr×Obj)) (s:Shared) (σ:St) (H:Hp) (D:Ends),Inv X pins σ H s→t D σ H→wpAny (model X.prog X.w) X.A (exec st X.env) (SP X pins D) X.xe s
noncomputable def PSs (X:Cx) (st:List Stmt) (t:TS):Prop:=
  ∀ (pins:List (Addr×Obj)) (s:Shared) (σ:St) (H:Hp) (D:Ends),Inv X pins σ H s→t D σ H→wpAny (model X.prog X.w) X.A (execs st X.env) (SP X pins D) X.xe s
theorem thn {α:Type} {t:Sem α} {Q Q':α→Shared→Prop} {M:Model} {A:Around} {E:Value→Shared→Prop} {s:Shared} (h:wpAny M A t Q E s) (hQ:∀ a s,Q a s→Q' a s):wpAny M A t Q' E s:=wpAny_mono h hQ fun _ _ x=>x
theorem thnG {α β:Type} {X:Cx} {pins:List (Addr×Obj)} {σ:St} {t:Sem β} {R:α→β→Prop} {Q:α→Hp→Prop} {T:β→Shared→Prop} {M:Model} {A:Around} {E:Value→Shared→Prop} {s:Shared}
    (h:wpAny M A t (fun u s1=>∃ x H1,Inv X pins σ H1 s1∧R x u∧Q x H1) E s) (k:∀ u s1 x H1,Inv X pins σ H1 s1→R x u→Q x H1→T u s1):wpAny M A t T E s:=
  thn h fun u s1 z=>by obtain ⟨x,H1,a,b,c⟩:=z; exact k u s1 x H1 a b c
theorem un7 {β γ δ α:Type} {B A Z:β→γ→δ→α→Prop} {C:Prop} (k:∀ P F ρ d,B P F ρ d→A P F ρ d→Z P F ρ d→C) (h:∃ P F ρ d,B P F ρ d∧A P F ρ d∧Z P F ρ d):C:=by
  obtain ⟨P,F,ρ,d,a,b,c⟩:=h; exact k P F ρ d a b c
section
variable {X:Cx}
noncomputable def tVar (i:Nat):TE:=fun σ H Q=>∃ v,σ[i]?=some (some v)∧Q v H
noncomputable def tC (v:V):TE:=fun _ H Q=>Q v H
theorem pe_var {i:Nat} {x:Str} {pos:Pos} (hN:X.N[i]?=some x) (hv:Vis X.env.scope x) (hd:(x == ("__debug__":Str))=false:=by decide) (hcd:(x == ("__classdict__":Str))=false:=by decide):PE X (.Name x pos) (tVar i):=by
  intro pins s σ H Q I h
  obtain ⟨v,e,h⟩:=h
  obtain ⟨m,hn,hl⟩:=I.loc
  obtain ⟨u,r,l⟩:=hl i x v hN e hv
  have fin:EP X pins σ Q u s:=⟨v,H,I,r,h⟩
  rcases l with ⟨hk,hm⟩ | ⟨hk,c,hc,hcell⟩
  · exact wpAny_Name (wpAny_loadName_local I.ok.kind hk hn hm fin) hd
  · rcases hk with hk | hk
    · exact wpAny_Name (wpAny_loadName_cell I.ok.kind hk hc hcell fin) hd
    · exact wpAny_Name (wpAny_loadName_free I.ok.kind hk hc hcell fin hcd) hd
theorem pe_int {i j pos}:PE X (.Constant (.int i) j pos) (tC (.int i)):=fun _ _ _ H _ I h=>wpAny_Constant_int ⟨.int i,H,I.tok _,⟨_,rfl⟩,h⟩
theorem pe_bl {b j pos}:PE X (.Constant (.bool b) j pos) (tC (.bl b)):=fun _ _ _ H _ I h=>Constant_bool ⟨.bl b,H,I,rfl,h⟩
theorem pe_str {x j pos}:PE X (.Constant (.str x) j pos) (tC (.str x)):=fun _ _ _ H _ I h=>Calls.Constant_str ⟨.str x,H,I.tok _,⟨_,rfl⟩,h⟩
noncomputable def Gl (X:Cx) (x:Str):Prop:=X.env.kindOf x=some .globalImplicit
theorem ld_glob {E:Value→Shared→Prop} {pins:List (Addr×Obj)} {s:Shared} {σ:St} {H:Hp} {x:Str} {u:Value} {pos:Pos} {Q:Value→Shared→Prop} (I:Inv X pins σ H s) (hg:Gl X x) (hm:X.mg x=some u) (h:Q u s)
    (hd:(x == ("__debug__":Str))=false:=by decide):wpAny (model X.prog X.w) X.A (eval (.Name x pos) X.env) Q E s:=
  Calls.Name_function_global I.ok.kind hg (Calls.loadGlobal_global (by rw [I.ok.glob]; exact I.mod.glob.keeps I.bk) hm h) hd
theorem ld_blt {E:Value→Shared→Prop} {pins:List (Addr×Obj)} {s:Shared} {σ:St} {H:Hp} {x:Str} {u:Value} {pos:Pos} {Q:Value→Shared→Prop} (I:Inv X pins σ H s) (hg:Gl X x) (hm:X.mg x=none) (hv:bootBuiltins x=some u) (h:Q u s)
    (hn:x ≠ "__name__":=by decide) (hd:(x == ("__debug__":Str))=false:=by decide):wpAny (model X.prog X.w) X.A (eval (.Name x pos) X.env) Q E s:=by
  obtain ⟨mb,h1,h2⟩:=I.mod.blt
  exact Calls.Name_function_global I.ok.kind hg (Calls.loadGlobal_builtin (by rw [I.ok.glob]; exact I.mod.glob.keeps I.bk) hm (by rw [I.ok.blt]; exact h1.keeps I.bk) ((h2 x hn).trans hv) h) hd
theorem pe_glob {x:Str} {v:V} {u:Value} {pos:Pos} (hg:Gl X x) (hm:X.mg x=some u) (r:RelV v u) (hd:(x == ("__debug__":Str))=false:=by decide):PE X (.Name x pos) (tC v):=
  fun _ _ _ H _ I h=>ld_glob I hg hm ⟨v,H,I,r,h⟩ hd
theorem pe_bltn {x:Str} {v:V} {u:Value} {pos:Pos} (hg:Gl X x) (hm:X.mg x=none) (hv:bootBuiltins x=some u) (r:RelV v u) (hn:x ≠ "__name__":=by decide) (hd:(x == ("__debug__":Str))=false:=by decide):PE X (.Name x pos) (tC v):=
  fun _ _ _ H _ I h=>ld_blt I hg hm hv ⟨v,H,I,r,h⟩ hn hd
variable {a b:Expr} {ta tb:TE} {pos:Pos}
noncomputable def tB (t:TE):TT:=fun σ H Q=>t σ H fun x H1=>∃ c,x=.bl c∧Q c H1
theorem pt_val {e:Expr} {t:TE} (h:PE X e t) (he:∀ whole,isTrue e X.env whole=(do let v ← whole; standAt e.pos; holding [v] (truthy v)):=by intro _; rfl):PT X e (tB t):=by
  intro pins s σ H Q I hw
  refine isTrue_plain (thnG (h pins s σ H _ I hw) fun v s1 x H1 I1 r1 q1=>?_) (he _)
  obtain ⟨d,rfl,q⟩:=q1
  cases r1
  exact wpAny_truthy_bool ⟨H1,I1,q⟩
variable {tA tB':TT} {rest:List Expr}
noncomputable def tAnd (t u:TT):TT:=fun σ H Q=>t σ H fun c H1=>if c=true then u σ H1 Q else Q false H1
noncomputable def tOr (t u:TT):TT:=fun σ H Q=>t σ H fun c H1=>if c=true then Q true H1 else u σ H1 Q
noncomputable def tNot (t:TT):TT:=fun σ H Q=>t σ H fun c H1=>Q (!c) H1
theorem pw_and1 (ha:PT X a tA):PW X (.BoolOp .And [a] pos) tA:=by
  intro wh pins s σ H Q I h
  refine isTrue_and (thn (ha pins s σ H Q I h) fun c s1 e=>?_)
  cases c with
  | true=>exact isTrue_and_nil e
  | false=>exact e
theorem pw_or1 (ha:PT X a tA):PW X (.BoolOp .Or [a] pos) tA:=by
  intro wh pins s σ H Q I h
  refine isTrue_or (thn (ha pins s σ H Q I h) fun c s1 e=>?_)
  cases c with
  | false=>exact isTrue_or_nil e
  | true=>exact e
theorem pw_and (ha:PT X a tA) (hb:PW X (.BoolOp .And (b::rest) pos) tB'):PW X (.BoolOp .And (a::b::rest) pos) (tAnd tA tB'):=by
  intro wh pins s σ H Q I h
  refine isTrue_and (thn (ha pins s σ H _ I h) fun c s1 hh_=>?_)
  obtain ⟨H1,I1,q1⟩:=hh_
  cases c with
  | true=>exact hb wh pins s1 σ H1 Q I1 q1
  | false=>exact ⟨H1,I1,q1⟩
theorem pw_or (ha:PT X a tA) (hb:PW X (.BoolOp .Or (b::rest) pos) tB'):PW X (.BoolOp .Or (a::b::rest) pos) (tOr tA tB'):=by
  intro wh pins s σ H Q I h
  refine isTrue_or (thn (ha pins s σ H _ I h) fun c s1 hh_=>?_)
  obtain ⟨H1,I1,q1⟩:=hh_
  cases c with
  | true=>exact ⟨H1,I1,q1⟩
  | false=>exact hb wh pins s1 σ H1 Q I1 q1
theorem pt_not (ha:PT X a tA):PT X (.UnaryOp .Not a pos) (tNot tA):=by
  intro pins s σ H Q I h
  exact isTrue_not (ha pins s σ H (fun c H1=>Q (!c) H1) I h)
noncomputable def tAndV (ta tb:TE):TE:=fun σ H Q=>ta σ H fun x H1=>∃ c,x=.bl c∧if c=true then tb σ H1 Q else Q (.bl false) H1
noncomputable def tNotV (ta:TE):TE:=fun σ H Q=>ta σ H fun x H1=>∃ c,x=.bl c∧Q (.bl (!c)) H1
theorem pe_one {op} {t:TE} (h:PE X a t):PE X (.BoolOp op [a] pos) t:=fun pins s σ H Q I hw=>BoolOp_one (h pins s σ H Q I hw)
theorem pe_and (ha:PE X a ta) (hb:PE X (.BoolOp .And (b::rest) pos) tb):PE X (.BoolOp .And (a::b::rest) pos) (tAndV ta tb):=by
  intro pins s σ H Q I h
  refine BoolOp_and (thnG (ha pins s σ H _ I h) fun v s1 x H1 I1 r1 q1=>?_)
  obtain ⟨c,rfl,q1⟩:=q1
  cases r1
  refine wpAny_truthy_bool ?_
  cases c with
  | true=>exact hb pins s1 σ H1 Q I1 q1
  | false=>exact ⟨.bl false,H1,I1,rfl,q1⟩
theorem pe_not (ha:PE X a ta):PE X (.UnaryOp .Not a pos) (tNotV ta):=by
  intro pins s σ H Q I h
  refine UnaryOp_ (thnG (ha pins s σ H _ I h) fun v s1 x H1 I1 r1 q1=>?_)
  obtain ⟨c,rfl,q1⟩:=q1
  cases r1
  exact not_of (wpAny_truthy_bool ⟨.bl (!c),H1,I1,rfl,q1⟩)
noncomputable def tIf (t:TT) (ta tb:TE):TE:=fun σ H Q=>t σ H fun c H1=>if c=true then ta σ H1 Q else tb σ H1 Q
theorem pe_ifExp {c:Expr} (hc:PT X c tA) (ha:PE X a ta) (hb:PE X b tb):PE X (.IfExp c a b pos) (tIf tA ta tb):=by
  intro pins s σ H Q I h
  refine wpAny_IfExp (thn (hc pins s σ H _ I h) fun d s1 hh_=>?_)
  obtain ⟨H1,I1,q1⟩:=hh_
  cases d with
  | true=>exact ha pins s1 σ H1 Q I1 q1
  | false=>exact hb pins s1 σ H1 Q I1 q1
end
noncomputable def SqL (K:PySem.W.Frag) (H:Hp) (a:Addr) (xs:List V):Prop:=
  Rd H a (.lst xs) ∨
    ∃ (o:Obj) (its:Array Value) (n:Nat),K.lookup a=some o∧o.cls=.type "list"∧o.dict=none∧o.data=.seq its n∧its.size≤sizeLine∧Vals xs its.toList
noncomputable def SqT (K:PySem.W.Frag) (H:Hp) (a:Addr) (xs:List V):Prop:=
  Rd H a (.tup xs) ∨
    ∃ (o:Obj) (its:Array Value) (n:Nat),K.lookup a=some o∧o.cls=.type "tuple"∧o.data=.seq its n∧its.size≤sizeLine∧Vals xs its.toList
noncomputable def absV:Value→Option V
  | .none=>some .non
  | .bool b=>some (.bl b)
  | .int i _=>some (.int i)
  | .str x _=>some (.str x)
  | .bytes b _=>some (.byt b)
  | .float b _=>some (.flt b)
  | .ref a=>some (.ref a)
  | .type n=>some (.ty n)
  | _=>none
theorem RelV.abs {x:V} {u:Value} (r:RelV x u):absV u=some x:=by
  cases x with
  | non=>cases r; rfl
  | bl _=>cases r; rfl
  | int _=>obtain ⟨t,rfl⟩:=r; rfl
  | str _=>obtain ⟨t,rfl⟩:=r; rfl
  | byt _=>obtain ⟨t,rfl⟩:=r; rfl
  | flt _=>obtain ⟨t,rfl⟩:=r; rfl
  | ref _=>cases r; rfl
  | ty _=>cases r; rfl
theorem RelV.inj {x y:V} {u:Value} (r:RelV x u) (q:RelV y u):x=y:=Option.some.inj (r.abs.symm.trans q.abs)
theorem Vals.inj {xs ys:List V} {us:List Value} (h:Vals xs us):Vals ys us→xs=ys:=by
  induction h generalizing ys with
  | nil=>intro q; cases q; rfl
  | cons r _ ih=>
    intro q
    cases q with
    | cons r' t'=>rw [r.inj r',ih t']
section
variable {X:Cx} {pins:List (Addr×Obj)} {σ:St} {H:Hp} {s:Shared} {a:Addr} {xs ys:List V}
theorem SqL.of {K:PySem.W.Frag} (h:H a=some (.lst xs)):SqL K H a xs:=.inl (.inl h)
theorem SqT.of {K:PySem.W.Frag} (h:H a=some (.tup xs)):SqT K H a xs:=.inl (.inl h)
theorem Inv.list (I:Inv X pins σ H s) (h:SqL X.K H a xs):∃ its:List Value,Vals xs its∧PlainL s.heap a its.toArray∧xs.length≤sizeLine:=by
  rcases h with h | ⟨o,its,n,hk,hc,hd,hs,hz,r⟩
  · obtain ⟨z,its,n,r,e⟩:=h.ok I.hok
    exact ⟨its,r,⟨_,n,e,rfl,rfl,rfl⟩,z⟩
  · refine ⟨its.toList,r,⟨o,n,I.kIn a o hk,hc,hd,by simpa using hs⟩,?_⟩
    have e:=r.length
    simp only [Array.length_toList] at e
    lia
theorem Inv.tuple (I:Inv X pins σ H s) (h:SqT X.K H a xs):∃ its:List Value,Vals xs its∧IsTup s.heap a its.toArray∧xs.length≤sizeLine:=by
  rcases h with h | ⟨o,its,n,hk,hc,hs,hz,r⟩
  · obtain ⟨z,its,r,p⟩:=h.ok I.hok
    exact ⟨its,r,p,z⟩
  · refine ⟨its.toList,r,⟨o,I.kIn a o hk,hc,n,by simpa using hs⟩,?_⟩
    have e:=r.length
    simp only [Array.length_toList] at e
    lia
theorem Inv.list_inj (I:Inv X pins σ H s) (h:SqL X.K H a xs) (h':SqL X.K H a ys):xs=ys:=by
  obtain ⟨its,r,⟨o,n,e,_,_,d⟩,_⟩:=I.list h
  obtain ⟨its',r',⟨o',n',e',_,_,d'⟩,_⟩:=I.list h'
  rw [e] at e'; cases e'
  rw [d] at d'
  injection d' with d1 _
  have:its=its':=by simpa using congrArg Array.toList d1
  subst this
  exact r.inj r'
end
noncomputable abbrev Cx.wish (X:Cx) (E:Value→Shared→Prop):Cx:={ X with xe:=E }
noncomputable abbrev Cx.nox (X:Cx):Cx:=X.wish fun _ _=>False
theorem Cx.Ok.wish {X:Cx} (ok:X.Ok) (E:Value→Shared→Prop):(X.wish E).Ok:=
  ⟨ok.mod,ok.kind,ok.glob,ok.blt,ok.above,ok.inj,ok.has,ok.cab,ok.hd,ok.frames,ok.stk,ok.exf,ok.bs,ok.bsz,ok.noex,ok.exfs,ok.funs,ok.frf⟩
theorem Cx.Ok.unwish {X:Cx} {E:Value→Shared→Prop} (ok:(X.wish E).Ok):X.Ok:=
  ⟨ok.mod,ok.kind,ok.glob,ok.blt,ok.above,ok.inj,ok.has,ok.cab,ok.hd,ok.frames,ok.stk,ok.exf,ok.bs,ok.bsz,ok.noex,ok.exfs,ok.funs,ok.frf⟩
section
variable {X:Cx} {pins:List (Addr×Obj)} {σ:St} {H:Hp} {s:Shared} {E:Value→Shared→Prop}
theorem Inv.wish (I:Inv X pins σ H s) (E:Value→Shared→Prop):Inv (X.wish E) pins σ H s:=⟨I.ok.wish E,I.os,I.bare,I.base,I.loc,I.cell,I.free,I.freeC,I.pin,I.hok,I.len⟩
theorem Inv.unwish (I:Inv (X.wish E) pins σ H s):Inv X pins σ H s:=⟨I.ok.unwish,I.os,I.bare,I.base,I.loc,I.cell,I.free,I.freeC,I.pin,I.hok,I.len⟩
theorem SP.unwish {D:Ends} {f:Flow} {s':Shared} (h:SP (X.wish E) pins D f s'):SP X pins D f s':=by
  cases f with
  | next=>obtain ⟨σ',H',I,q⟩:=h; exact ⟨σ',H',I.unwish,q⟩
  | brk=>obtain ⟨σ',H',I,q⟩:=h; exact ⟨σ',H',I.unwish,q⟩
  | cont=>obtain ⟨σ',H',I,q⟩:=h; exact ⟨σ',H',I.unwish,q⟩
  | ret u=>obtain ⟨v,σ',H',I,r,q⟩:=h; exact ⟨v,σ',H',I.unwish,r,q⟩
theorem PSs.nox {st:List Stmt} {t:TS} (h:PSs X.nox st t):PSs X st t:=fun pins s σ H D I hw=>
  wpAny_mono (h pins s σ H D (I.wish _) hw) (fun _ _ q=>q.unwish) fun _ _ z=>False.elim z
end
section
variable {X:Cx} {st:Stmt} {rest:List Stmt} {t u:TS} {e:Expr} {te:TE} {pos:Pos}
noncomputable def tNext:TS:=fun D σ H=>D.nx σ H
noncomputable def tSeq (t u:TS):TS:=fun D σ H=>t { D with nx:=u D } σ H
theorem pss_nil:PSs X [] tNext:=fun _ _ σ H _ I h=>wpAny_execs_nil ⟨σ,H,I,h⟩
theorem pss_cons (h1:PS X st t) (h2:PSs X rest u):PSs X (st::rest) (tSeq t u):=by
  intro pins s σ H D I h
  refine wpAny_execs_cons (thn (h1 pins s σ H { D with nx:=u D } I h) fun f s1 q=>?_)
  cases f with
  | next=>
    obtain ⟨σ',H',I',q⟩:=q
    exact h2 pins s1 σ' H' D I' q
  | ret v=>exact q
  | brk=>exact q
  | cont=>exact q
theorem pss_one (h1:PS X st t):PSs X [st] t:=by
  intro pins s σ H D I h
  refine wpAny_execs_cons (thn (h1 pins s σ H D I h) fun f s1 q=>?_)
  cases f with
  | next=>exact wpAny_execs_nil q
  | ret v=>exact q
  | brk=>exact q
  | cont=>exact q
theorem Inv.quiet {pins:List (Addr×Obj)} {σ:St} {H:Hp} {s:Shared} (I:Inv X pins σ H s):interactive X.env=false:=by simp [interactive,I.ok.kind]
noncomputable def tDrop (te:TE):TS:=fun D σ H=>te σ H fun _ H1=>D.nx σ H1
theorem ps_expr (he:PE X e te) (hs:swapsWith e none pos.line X.env=pure false:=by rfl):PS X (.Expr e pos) (tDrop te):=by
  intro pins s σ H D I h
  exact wpAny_Expr_any (thnG (he pins s σ H _ I h) fun v s1 x H1 I1 r1 q1=>⟨σ,H1,I1,q1⟩) I.quiet hs
noncomputable def tRet (te:TE):TS:=fun D σ H=>te σ H D.rt
theorem ps_ret (he:PE X e te):PS X (.Return (some e) pos) (tRet te):=by
  intro pins s σ H D I h
  exact wpAny_Return_some (thnG (he pins s σ H _ I h) fun v s1 x H1 I1 r1 q1=>⟨x,σ,H1,I1,r1,q1⟩)
noncomputable def tIfS (c:TT) (t u:TS):TS:=fun D σ H=>c σ H fun b H1=>if b=true then t D σ H1 else u D σ H1
theorem ps_if {c:Expr} {a b:List Stmt} {tc:TT} (hc:PT X c tc) (ha:PSs X a t) (hb:PSs X b u):PS X (.If c a b pos) (tIfS tc t u):=by
  intro pins s σ H D I h
  refine wpAny_If (thn (hc pins s σ H _ I h) fun d s1 hh_=>?_)
  obtain ⟨H1,I1,q1⟩:=hh_
  cases d with
  | true=>exact ha pins s1 σ H1 D I1 q1
  | false=>exact hb pins s1 σ H1 D I1 q1
noncomputable def tNever:TS:=fun _ _ _=>False
theorem ps_never:PS X st tNever:=fun _ _ _ _ _ _ h=>h.elim
end
noncomputable abbrev TG:=V→St→Hp→(St→Hp→Prop)→Prop
noncomputable abbrev TGs:=List V→St→Hp→(St→Hp→Prop)→Prop
noncomputable def PG (X:Cx) (target:Expr) (t:TG):Prop:=
  ∀ (pins:List (Addr×Obj)) (s:Shared) (σ:St) (H:Hp) (v:V) (u:Value) (Q:St→Hp→Prop),Inv X pins σ H s→RelV v u→t v σ H Q→
    wpAny (model X.prog X.w) X.A (assign target X.env u) (fun _ s'=>∃ σ' H',Inv X pins σ' H' s'∧Q σ' H') X.xe s
noncomputable def PGs (X:Cx) (ts:List Expr) (t:TGs):Prop:=
  ∀ (pins:List (Addr×Obj)) (s:Shared) (σ:St) (H:Hp) (vs:List V) (us:List Value) (Q:St→Hp→Prop),Inv X pins σ H s→Vals vs us→t vs σ H Q→
    wpAny (model X.prog X.w) X.A (assignInOrder ((assignEach ts X.env).map (·.2)) us) (fun _ s'=>∃ σ' H',Inv X pins σ' H' s'∧Q σ' H') X.xe s
section
variable {X:Cx} {pos:Pos}
noncomputable def gName (i:Nat):TG:=fun v σ H Q=>Q (σ.set i (some v)) H
theorem pg_name {i:Nat} {x:Str} (hN:X.N.Nodup) (hi:X.N[i]?=some x) (hx:Loc X.env.scope x) (hf:X.fn x=true∨X.env.scope.names.lookup x=some .local:=by first | exact .inl rfl | exact .inr rfl | assumption):PG X (.Name x pos) (gName i):=by
  intro pins s σ H v u Q I r h
  exact wpAny_assign_Name (store_ok I hN hi hx r (fun s' I'=>⟨_,H,I',h⟩) hf)
noncomputable def gNil:TGs:=fun vs σ H Q=>vs=[]∧Q σ H
noncomputable def gCons (t:TG) (u:TGs):TGs:=fun vs σ H Q=>∃ v r,vs=v::r∧t v σ H fun σ' H'=>u r σ' H' Q
theorem pgs_nil:PGs X [] gNil:=by
  intro pins s σ H vs us Q I r h
  obtain ⟨e,h⟩:=h
  subst e
  cases r
  exact assignInOrder_nil ⟨σ,H,I,h⟩
theorem pgs_cons {e:Expr} {es:List Expr} {t:TG} {u:TGs} (h1:PG X e t) (h2:PGs X es u)
    (hs:(assignEach (e::es) X.env).map (·.2)=assign e X.env::(assignEach es X.env).map (·.2):=by rfl):PGs X (e::es) (gCons t u):=by
  intro pins s σ H vs us Q I r h
  obtain ⟨v,vr,e1,h⟩:=h
  subst e1
  cases r with
  | cons r rr=>
    rw [hs]
    refine assignInOrder_cons (thn (h1 pins s σ H _ _ _ I r h) fun _ s1 hh_=>?_)
    obtain ⟨σ1,H1,I1,q1⟩:=hh_
    exact h2 pins s1 σ1 H1 _ _ Q I1 rr q1
noncomputable def gTup (K:PySem.W.Frag) (n:Nat) (t:TGs):TG:=fun v σ H Q=>∃ a xs,v=.ref a∧SqT K H a xs∧xs.length=n∧t xs σ H Q
theorem pg_tup {es:List Expr} {k:Nat} {t:TGs} {n:Nat} (hc:X.calm=true) (h:PGs X es t)
    (hn:(assignEach es X.env).length=n:=by rfl) (hst:(assignEach es X.env).findIdx? (·.1)=none:=by rfl):PG X (.Tuple es k pos) (gTup X.K n t):=by
  intro pins s σ H v u Q I r hw
  obtain ⟨a,xs,e1,hq,hl,hw⟩:=hw
  subst e1
  cases r
  obtain ⟨its,rv,ht,hz⟩:=I.tuple hq
  refine assign_Tuple_tuple (I.ok.hd hc) ht (by simp [hn,← hl,rv.length]) hst fun h' hx=>?_
  have I1:Inv X pins σ H { s with heap:=h' }:=I.kept (t':=s.toks) fun b o e=>hx b o (Nat.ne_of_lt (Heap.lt_size e)) e
  exact h pins _ σ H xs _ Q I1 (by simpa using rv) hw
noncomputable def tAsg (te:TE) (g:TG):TS:=fun D σ H=>te σ H fun x H1=>g x σ H1 D.nx
theorem ps_asg {tg e:Expr} {te:TE} {g:TG} (he:PE X e te) (hg:PG X tg g) (hs:swapsWithSole [tg] e pos.line X.env=pure false:=by rfl) (hw:swappedStores [tg] e X.env=pure none:=by rfl)
    (h1:(assignEach [tg] X.env).map (·.2)=[assign tg X.env]:=by rfl):PS X (.Assign [tg] e pos) (tAsg te g):=by
  intro pins s σ H D I h
  refine wpAny_Assign_stores (thnG (he pins s σ H _ I h) fun v s1 x H1 I1 r1 q1=>?_) hs hw
  rw [h1]
  exact thn (hg pins s1 σ H1 x v _ I1 r1 q1) fun _ s2 q=>q
theorem ps_set {i:Nat} {x:Str} {e:Expr} {te:TE} {pos':Pos} (hN:X.N.Nodup) (hi:X.N[i]?=some x) (hx:Loc X.env.scope x) (he:PE X e te) (hs:swapsWith e (some (.Name x pos')) pos.line X.env=pure false:=by rfl) (hf:X.fn x=true∨X.env.scope.names.lookup x=some .local:=by first | exact .inl rfl | exact .inr rfl | assumption) :
    PS X (.Assign [.Name x pos'] e pos) (tAsg te (gName i)):=by
  intro pins s σ H D I h
  refine wpAny_Assign_Name (thnG (he pins s σ H _ I h) fun v s1 y H1 I1 r1 q1=>?_) hs
  exact store_ok I1 hN hi hx r1 (fun s2 I2=>⟨_,H1,I2,q1⟩) hf
end
section
variable {X:Cx} {pos:Pos}
end
structure It where
  go:Nat→Hp→Prop
  yld:Nat→Hp→V→Hp→Prop
  stop:Nat→Hp→Prop
noncomputable def FpOk (X:Cx) (pins:List (Addr×Obj)) (H:Hp) (b:Addr):Prop:=
  H b=none∧b≠X.env.locals∧b∉X.fs∧(b∈X.ex∨X.s₀.heap.objs.size≤b)∧(∀ x c,X.env.cells.lookup x=some c→c≠b)∧∀ p∈X.pn++pins,p.1≠b
theorem Inv.fpOk {X:Cx} {pins:List (Addr×Obj)} {σ:St} {H H':Hp} {s:Shared} {b:Addr} (I:Inv X pins σ H s) (hb:s.heap.objs.size≤b) (hn:H' b=none):FpOk X pins H' b:=by
  refine ⟨hn,Nat.ne_of_gt (Nat.lt_of_lt_of_le I.lt hb),I.nofs hb,.inr (Nat.le_trans I.sz hb),fun x c e z=>?_,fun p hp z=>?_⟩
  · obtain ⟨v,q⟩:=I.cell x c e
    exact absurd (Nat.lt_of_lt_of_le q.lt (by rw [z]; exact hb)) (Nat.lt_irrefl _)
  · exact absurd (Nat.lt_of_lt_of_le (Heap.lt_size (I.pin p hp).1) (by rw [z]; exact hb)) (Nat.lt_irrefl _)
structure Turn (P:Program) (w:World) (K:PySem.W.Frag) (tg:Expr) (J:It) (fp:List Addr) (it:Addr) (tn:Nat→Heap→Prop):Prop where
  mem:it∈fp
  obj:∀ i h,tn i h→∀ b∈fp,∃ o,h.get? b=some o∧∀ v,o.data≠.cell v
  keep:∀ i h h',tn i h→(∀ b∈fp,∀ o,h.get? b=some o→h'.get? b=some o)→tn i h'
  item:∀ (X:Cx),X.prog=P→X.w=w→X.K=K→X.calm=true→∀ (i:Nat) (pins:List (Addr×Obj)) (s:Shared) (σ:St) (H:Hp) (E:Value→Shared→Prop),Inv X pins σ H s→(∀ b∈fp,FpOk X pins H b)→tn i s.heap→J.go i H→
    wpAny (model P w) X.A (pyNext (.ref it)) (fun r s1=>∃ u,r=some u ∧
      wpAny (model P w) X.A (letOwnedTupleGo tg (.ref it) u) (fun _ s2=>∃ x H',Inv X pins σ H' s2∧RelV x u∧J.yld i H x H'∧tn (i + 1) s2.heap∧∀ b∈fp,H' b=none) E s1) E s
  done:∀ (X:Cx),X.prog=P→X.w=w→X.K=K→X.calm=true→∀ (i:Nat) (pins:List (Addr×Obj)) (s:Shared) (σ:St) (H:Hp) (E:Value→Shared→Prop),Inv X pins σ H s→(∀ b∈fp,FpOk X pins H b)→tn i s.heap→J.stop i H→
    wpAny (model P w) X.A (pyNext (.ref it)) (fun r s1=>r=none∧Inv X pins σ H s1) E s
  self:∀ (A:Around) (i:Nat) (s:Shared) (Q:Value→Shared→Prop) (E:Value→Shared→Prop),tn i s.heap→Q (.ref it) s→wpAny (model P w) A (pyIter (.ref it)) Q E s
noncomputable abbrev TI:=St→Hp→(It→Hp→Prop)→Prop
noncomputable def PIE (X:Cx) (pins:List (Addr×Obj)) (σ:St) (tg:Expr) (R:It→Hp→Prop) (itv:Value) (s2:Shared):Prop:=
  ∃ (it:Addr) (fp:List Addr) (tn:Nat→Heap→Prop) (J:It) (H':Hp),itv=.ref it∧Inv X pins σ H' s2∧Turn X.prog X.w X.K tg J fp it tn∧tn 0 s2.heap∧(∀ b∈fp,FpOk X pins H' b)∧R J H'
noncomputable def PI (X:Cx) (tg iter:Expr) (wi:TI):Prop:=
  ∀ (pins:List (Addr×Obj)) (s:Shared) (σ:St) (H:Hp) (R:It→Hp→Prop),Inv X pins σ H s→wi σ H R→
    wpAny (model X.prog X.w) X.A (eval iter X.env) (fun v s1=>wpAny (model X.prog X.w) X.A (pyIter v) (PIE X pins σ tg R) X.xe s1) X.xe s
theorem go_of {M:Model} {A:Around} {E:Value→Shared→Prop} {s:Shared} {tg:Expr} {it:Addr} {u:Value} {o:Obj} {n:String} {vs:Array Value} {Q:Unit→Shared→Prop} (ho:s.heap.get? it=some o) (hc:o.cls=.type n) (hd:o.data=.fields vs)
    (hn:["enumerate", "zip", "dict_itemiterator", "dict_reverseitemiterator", "odict_iterator", "itertools.zip_longest", "itertools.pairwise"].contains n=false) (hQ:Q () s):wpAny M A (letOwnedTupleGo tg (.ref it) u) Q E s:=by
  unfold letOwnedTupleGo
  cases tg <;> first
    | exact wpAny_pure hQ
    | (cases u <;> first
        | exact wpAny_pure hQ
        | (refine wpAny_bind (wpAny_load ho ?_)
           rw [hc,hd]
           show wpAny M A (if (["enumerate", "zip", "dict_itemiterator", "dict_reverseitemiterator", "odict_iterator", "itertools.zip_longest", "itertools.pairwise"].contains n&&vs[0]? == some (rawInt _))=true then _ else _) Q E s
           rw [if_neg (by intro h; rw [hn,Bool.false_and] at h; cases h)]
           exact wpAny_pure hQ))
noncomputable def Itl (K:PySem.W.Frag) (a:Addr):It:=
  ⟨fun i H=>∃ xs x,SqL K H a xs∧xs[i]?=some x,fun i H x H'=>H'=H∧∀ xs,SqL K H a xs→xs[i]?=some x,fun i H=>∃ xs,SqL K H a xs∧xs.length≤i⟩
noncomputable def Itr (lo:Int) (n:Nat):It:=⟨fun i _=>i < n,fun i H x H'=>H'=H∧x=.int (lo + i),fun i _=>n≤i⟩
theorem turn_list {P:Program} {w:World} {K:PySem.W.Frag} {tg:Expr} (a it:Addr):Turn P w K tg (Itl K a) [it] it (fun i h=>h.IsListIter it a i) where
  mem:=by simp
  obj:=fun i h st b hb=>by
    have e:b=it:=by simpa using hb
    subst e
    obtain ⟨o,e,c,d⟩:=st
    exact ⟨o,e,fun v z=>by rw [d] at z; cases z⟩
  keep:=fun i h h' st k=>st.at fun o e=>k it (by simp) o e
  item:=by
    intro X hP hw hK hc i pins s σ H E I hf st hg
    subst hP hw hK
    obtain ⟨xs,x,hq,hx⟩:=hg
    obtain ⟨its,rv,p,hz⟩:=I.list hq
    obtain ⟨u,hu,ru⟩:=rv.get hx
    obtain ⟨f0,f1,f2,f3,f4,f5⟩:=hf it (by simp)
    refine wpAny_pyNext_list_item st p.isList (x:=u) (by simpa using hu) fun h' st' sb=>?_
    have I1:Inv X pins σ H { s with heap:=h' }:=I.turned (t':=s.toks) (fun b o hb e=>(sb.2 b hb).trans e) f0 f1 f3 f4 f5
    obtain ⟨o,e,c,d⟩:=id st'
    exact ⟨u,rfl,go_of (s:={ s with heap:=h' }) e c d (by decide) ⟨x,H,I1,ru,⟨rfl,fun ys hy=>by rw [I.list_inj hy hq]; exact hx⟩,st',fun b hb=>(hf b hb).1⟩⟩
  done:=by
    intro X hP hw hK hc i pins s σ H E I hf st hg
    subst hP hw hK
    obtain ⟨xs,hq,hx⟩:=hg
    obtain ⟨its,rv,p,hz⟩:=I.list hq
    obtain ⟨f0,f1,f2,f3,f4,f5⟩:=hf it (by simp)
    have hl:=rv.length
    exact wpAny_pyNext_list_end (I.ok.hd hc) st p.isList (by simp; lia) fun h' eb=>⟨rfl,I.turned (t':=s.toks) (fun b o hb e=>eb b o hb e) f0 f1 f3 f4 f5⟩
  self:=fun _ _ _ _ _ st h=>wpAny_pyIter_listiter st h
theorem turn_range {P:Program} {w:World} {K:PySem.W.Frag} {tg:Expr} (it:Addr) (lo:Int) (n:Nat):Turn P w K tg (Itr lo n) [it] it (fun i h=>IsRangeIter h it (lo + (i:Nat) * 1) ((n:Int) - (i:Nat)) 1) where
  mem:=by simp
  obj:=fun i h st b hb=>by
    have e:b=it:=by simpa using hb
    subst e
    exact ⟨_,st,fun v z=>by
      have z':Data.fields _=Data.cell v:=z
      cases z'⟩
  keep:=fun i h h' st k=>k it (by simp) _ st
  item:=by
    intro X hP hw hK hc i pins s σ H E I hf st hg
    subst hP hw hK
    obtain ⟨f0,f1,f2,f3,f4,f5⟩:=hf it (by simp)
    have W:=Walks.range (prog:=X.prog) (w:=X.w) (I.ok.hd hc) it lo 1 n
    refine W.item i s _ _ hg st fun v h' tk hv st' kk=>?_
    obtain ⟨t,rfl⟩:=hv
    have I1:Inv X pins σ H { s with heap:=h',toks:=tk }:=I.turned (fun b o hb e=>kk b o (by simpa using hb) e) f0 f1 f3 f4 f5
    refine ⟨_,rfl,go_of (s:={ s with heap:=h',toks:=tk }) (n := "range_iterator") st' rfl rfl (by decide) ⟨.int (lo + i),H,I1,⟨t,?_⟩,⟨rfl,rfl⟩,st',fun b hb=>(hf b hb).1⟩⟩
    rw [Int.mul_one]
  done:=by
    intro X hP hw hK hc i pins s σ H E I hf st hg
    subst hP hw hK
    obtain ⟨f0,f1,f2,f3,f4,f5⟩:=hf it (by simp)
    exact wpAny_pyNext_range_end (I.ok.hd hc) st (by have:n≤i:=hg; lia) fun h' eb=>⟨rfl,I.turned (t':=s.toks) (fun b o hb e=>eb b o hb e) f0 f1 f3 f4 f5⟩
  self:=fun _ _ _ _ _ st h=>wpAny_pyIter_rangeiter st h
section
variable {X:Cx} {tg:Expr}
noncomputable def iList (K:PySem.W.Frag) (tl:TE):TI:=fun σ H R=>tl σ H fun x H1=>∃ a,x=.ref a∧(∃ xs,SqL K H1 a xs)∧R (Itl K a) H1
theorem pi_list {l:Expr} {tl:TE} (hl:PE X l tl):PI X tg l (iList X.K tl):=by
  intro pins s σ H R I h
  refine thnG (hl pins s σ H _ I h) fun v s1 x H1 I1 r1 q1=>?_
  obtain ⟨a,e,⟨xs,hq⟩,q⟩:=q1
  subst e
  cases r1
  obtain ⟨its,rv,p,hz⟩:=I1.list hq
  refine wpAny_pyIter_list p.isList ?_
  refine ⟨s1.heap.objs.size,[s1.heap.objs.size],_,_,H1,rfl,I1.kept (t':=s1.toks) fun b o e=>Heap.get?_push_of_some _ e,turn_list a _,⟨_,Heap.get?_push_size _ rfl,rfl,rfl⟩,fun b hb=>?_,q⟩
  have e:b=s1.heap.objs.size:=by simpa using hb
  subst e
  exact I1.fpOk (Nat.le_refl _) (I1.hok.fresh (Nat.le_refl _))
theorem range_it {pins:List (Addr×Obj)} {σ:St} {H:Hp} {s:Shared} {R:It→Hp→Prop} {E:Value→Shared→Prop} {lo hi:Int} {t u v:Tok} {tk:Nat} (I:Inv X pins σ H s) (h1:-(2 ^ 62)≤lo) (h2:lo < 2 ^ 62) (h3:-(2 ^ 62)≤hi) (h4:hi < 2 ^ 62)
    (q:R (Itr lo (hi - lo).toNat) H):wpAny (model X.prog X.w) X.A (pyIter (.ref s.heap.objs.size)) (PIE X pins σ tg R) E { s with heap:=s.heap.push { cls:=.type "range",data:=.fields #[.int lo t,.int hi u,.int 1 v] },toks:=tk }:=by
  refine wpAny_pyIter_range (IsRange.new ..) (small_one h1 h2 h3 h4) ?_
  have I1:Inv X pins σ H { s with heap:=s.heap.push { cls:=.type "range",data:=.fields #[.int lo t,.int hi u,.int 1 v] },toks:=tk }:=I.kept fun b o e=>Heap.get?_push_of_some _ e
  refine ⟨(s.heap.push { cls:=.type "range",data:=.fields #[.int lo t,.int hi u,.int 1 v] }).objs.size,[(s.heap.push { cls:=.type "range",data:=.fields #[.int lo t,.int hi u,.int 1 v] }).objs.size],_,_,H,rfl,
    I1.kept (t':=tk) fun b o e=>Heap.get?_push_of_some _ e,turn_range _ lo (hi - lo).toNat,?_,fun b hb=>?_,q⟩
  · have e1:lo + ((0:Nat):Int) * 1=lo:=by simp
    have e2:(((hi - lo).toNat:Nat):Int) - ((0:Nat):Int)=Builtin.Range.rangeSize lo hi 1:=by rw [rangeSize_one]; split <;> lia
    show IsRangeIter _ _ (lo + ((0:Nat):Int) * 1) ((((hi - lo).toNat:Nat):Int) - ((0:Nat):Int)) 1
    rw [e1,e2]
    exact Heap.get?_push_size _ rfl
  · have e:b=(s.heap.push { cls:=.type "range",data:=.fields #[.int lo t,.int hi u,.int 1 v] }).objs.size:=by simpa using hb
    subst e
    exact I1.fpOk (Nat.le_refl _) (I1.hok.fresh (Nat.le_refl _))
noncomputable def iRng1 (ta:TA):TI:=fun σ H R=>ta σ H fun vs H1=>∃ j:Int,vs=[.int j]∧-(2 ^ 62)≤j∧j < 2 ^ 62∧R (Itr 0 j.toNat) H1
noncomputable def iRng2 (ta:TA):TI:=fun σ H R=>ta σ H fun vs H1=>∃ i j:Int,vs=[.int i,.int j]∧(-(2 ^ 62)≤i∧i < 2 ^ 62∧-(2 ^ 62)≤j∧j < 2 ^ 62)∧R (Itr i (j - i).toNat) H1
theorem pi_range1 {a:Expr} {ta:TA} {p pos:Pos} (hg:Gl X "range") (hm:X.mg "range"=none) (ha:PA X [a] ta) (hs:starEach [a] X.env=[(false,eval a X.env)]:=by rfl):PI X tg (.Call (.Name "range" p) [a] [] pos) (iRng1 ta):=by
  intro pins s σ H R I h
  refine Call_ (ld_blt I hg hm boot_range (PyProof.Rows.callWith_type1 (thnG (ha pos pins s σ H _ I h) fun us s1 vs H1 I1 r1 q1=>?_) hs rfl))
  obtain ⟨j,e,q1,q2,q⟩:=q1
  subst e
  cases r1 with
  | cons r rr=>
    cases rr
    obtain ⟨t,rfl⟩:=r
    exact call_range_1 (range_it I1 (by lia) (by lia) q1 q2 (by simpa using q))
theorem pi_range2 {a b:Expr} {ta:TA} {p pos:Pos} (hg:Gl X "range") (hm:X.mg "range"=none) (ha:PA X [a,b] ta) (hs:starEach [a,b] X.env=[(false,eval a X.env),(false,eval b X.env)]:=by rfl) (hs2:starEach [b] X.env=[(false,eval b X.env)]:=by rfl) :
    PI X tg (.Call (.Name "range" p) [a,b] [] pos) (iRng2 ta):=by
  intro pins s σ H R I h
  refine Call_ (ld_blt I hg hm boot_range (PyProof.Rows.callWith_type1 (thnG (ha pos pins s σ H _ I h) fun us s1 vs H1 I1 r1 q1=>?_) (by rw [hs,hs2]) (by rw [hs2]; rfl)))
  obtain ⟨i,j,e,⟨q1,q2,q3,q4⟩,q⟩:=q1
  subst e
  cases r1 with
  | cons r rr=>
    cases rr with
    | cons r' rr=>
      cases rr
      obtain ⟨t,rfl⟩:=r
      obtain ⟨t',rfl⟩:=r'
      exact call_range_2 (range_it I1 q1 q2 q3 q4 q)
noncomputable def tFor (wi:TI) (g:TG) (tb:TS):TS:=fun D σ H=>wi σ H fun J H1=>∃ W:Nat→Nat→St→Hp→Prop,(∃ m,W 0 m σ H1)∧∀ i m σ H,W i m σ H→
  (J.stop i H∧D.nx σ H)∨(J.go i H∧∃ N:St→Hp→Prop,(∀ σ' H',N σ' H'→∃ m',m' < m∧W (i + 1) m' σ' H')∧∀ x H',J.yld i H x H'→g x σ H' fun σ2 H2=>tb { D with nx:=N,ct:=N,bk:=D.nx } σ2 H2)
noncomputable def pinsAt (fp:List Addr) (h:Heap):List (Addr×Obj):=fp.filterMap fun b=>(h.get? b).map fun o=>(b,o)
theorem mem_pinsAt {fp:List Addr} {h:Heap} {b:Addr} {o:Obj} (hb:b∈fp) (e:h.get? b=some o):(b,o)∈pinsAt fp h:=List.mem_filterMap.mpr ⟨b,hb,by rw [e]; rfl⟩
theorem of_pinsAt {fp:List Addr} {h:Heap} {p:Addr×Obj} (hp:p∈pinsAt fp h):p.1∈fp∧h.get? p.1=some p.2:=by
  obtain ⟨b,hb,e⟩:=List.mem_filterMap.mp hp
  cases q:h.get? b with
  | none=>rw [q] at e; cases e
  | some o=>
    rw [q] at e
    have e':(b,o)=p:=Option.some.inj e
    subst e'
    exact ⟨hb,q⟩
theorem Inv.pinned {pins:List (Addr×Obj)} {σ:St} {H:Hp} {s:Shared} {fp:List Addr} (I:Inv X pins σ H s) (hf:∀ b∈fp,FpOk X pins H b) (ho:∀ b∈fp,∃ o,s.heap.get? b=some o∧∀ v,o.data≠.cell v):Inv X (pins++pinsAt fp s.heap) σ H s:=
  I.pins_of fun p hp=>(List.mem_append.mp hp).elim (fun z=>I.pin p (List.mem_append_right _ z)) fun z=>by
    obtain ⟨hb,e⟩:=of_pinsAt z
    obtain ⟨f0,f1,f2,_⟩:=hf p.1 hb
    obtain ⟨o,e',d⟩:=ho p.1 hb
    rw [e] at e'; cases e'
    exact ⟨e,f0,f1,f2,d⟩
theorem Inv.unpinned {pins pl:List (Addr×Obj)} {σ:St} {H:Hp} {s:Shared} (I:Inv X (pins++pl) σ H s):Inv X pins σ H s:=I.pins_of fun p hp=>I.pin p (List.mem_append_right _ (List.mem_append_left _ hp))
theorem ps_for {iter:Expr} {body:List Stmt} {wi:TI} {g:TG} {tb:TS} {pos:Pos} (hp:PassesOwn (model X.prog X.w) X.A X.env X.xe) (hc:X.calm=true) (hi:PI X tg iter wi) (hg:PG X tg g) (hb:PSs X body tb)
    (hs:∀ x,foldedSetIterable iter X.env x=pure x:=by intro _; rfl):PS X (.For tg iter body [] pos) (tFor wi g tb):=by
  intro pins s σ H D I h
  refine wpAny_For (thn (hi pins s σ H _ I h) fun v s1 h1=>thn h1 fun itv s2 h2=>?_) hs
  obtain ⟨it,fp,tn,J,H2,e,I2,T,st2,f2,W,⟨m0,w0⟩,turn⟩:=h2
  subst e
  -- what stays true of the iterator's objects through the loop
  have stat:∀ {H':Hp},(∀ b∈fp,H' b=none)→∀ b∈fp,FpOk X pins H' b:=fun hn b hb=>⟨hn b hb,(f2 b hb).2⟩
  refine codeAny_forLoop_any (fun n s'=>∃ i σ' H',Inv X pins σ' H' s'∧tn i s'.heap∧(∀ b∈fp,H' b=none)∧W i n σ' H') ?_ m0 ⟨0,σ,H2,I2,st2,fun b hb=>(f2 b hb).1,w0⟩
  rintro n s3 ⟨i,σ3,H3,I3,st3,fr3,w3⟩
  rcases turn i n σ3 H3 w3 with ⟨stop,qn⟩ | ⟨go,N,hN,step⟩
  · refine wpAny_passesOwn hp (thn (T.done X rfl rfl rfl hc i pins s3 σ3 H3 X.xe I3 (stat fr3) st3 stop) fun r s4 ⟨hr,I4⟩=>?_)
    subst hr
    exact wpAny_execs_nil ⟨σ3,H3,I4,qn⟩
  · refine wpAny_passesOwn hp (thn (T.item X rfl rfl rfl hc i pins s3 σ3 H3 X.xe I3 (stat fr3) st3 go) fun r s4 ⟨u,hr,h4⟩=>?_)
    subst hr
    refine wpAny_passesOwn hp (thn h4 fun _ s5 hh_=>?_)
    obtain ⟨x,H5,I5,r5,y5,st5,fr5⟩:=hh_
    have I5':=I5.pinned (stat fr5) (T.obj _ _ st5)
    refine wpAny_passesOwn hp (thn (hg _ s5 σ3 H5 x u _ I5' r5 (step x H5 y5)) fun _ s6 hh_=>?_)
    obtain ⟨σ6,H6,I6,q6⟩:=hh_
    refine wpAny_passesOwn hp (thn (hb _ s6 σ6 H6 _ I6 q6) fun f s7 q7=>?_)
    have again:∀ {σ7:St} {H7:Hp},Inv X (pins++pinsAt fp s5.heap) σ7 H7 s7→N σ7 H7→∃ m,m < n∧∃ i σ' H',Inv X pins σ' H' s7∧tn i s7.heap∧(∀ b∈fp,H' b=none)∧W i m σ' H':=fun {σ7 H7} I7 n7=>by
      obtain ⟨m',hm,w7⟩:=hN σ7 H7 n7
      refine ⟨m',hm,i + 1,σ7,H7,I7.unpinned,T.keep _ _ _ st5 fun b hb o e=>(I7.pin (b,o) (List.mem_append_right _ (List.mem_append_right _ (mem_pinsAt hb e)))).1,fun b hb=>?_,w7⟩
      obtain ⟨o,e,d⟩:=T.obj _ _ st5 b hb
      exact (I7.pin (b,o) (List.mem_append_right _ (List.mem_append_right _ (mem_pinsAt hb e)))).2.1
    cases f with
    | next=>obtain ⟨σ7,H7,I7,n7⟩:=q7; exact again I7 n7
    | cont=>obtain ⟨σ7,H7,I7,n7⟩:=q7; exact again I7 n7
    | brk=>obtain ⟨σ7,H7,I7,q7⟩:=q7; exact ⟨σ7,H7,I7.unpinned,q7⟩
    | ret v=>obtain ⟨x7,σ7,H7,I7,r7,q7⟩:=q7; exact ⟨x7,σ7,H7,I7.unpinned,r7,q7⟩
end
noncomputable abbrev R2:=V→V→Hp→VK→Prop
noncomputable def OpR (X:Cx) (f:Value→Value→Sem Value) (r:R2):Prop:=
  ∀ (pins:List (Addr×Obj)) (s:Shared) (σ:St) (H:Hp) (x y:V) (v u:Value) (Q:VK),Inv X pins σ H s→RelV x v→RelV y u→r x y H Q→
    wpAny (model X.prog X.w) X.A (f v u) (EP X pins σ Q) X.xe s
noncomputable def CallR (X:Cx) (f:Value) (r:List V→Hp→VK→Prop):Prop:=
  ∀ (pins:List (Addr×Obj)) (s:Shared) (σ:St) (H:Hp) (xs:List V) (us:List Value) (Q:VK),Inv X pins σ H s→Vals xs us→r xs H Q→
    wpAny (model X.prog X.w) X.A (call f us) (EP X pins σ Q) X.xe s
noncomputable def tOp (r:R2) (ta tb:TE):TE:=fun σ H Q=>ta σ H fun x H1=>tb σ H1 fun y H2=>r x y H2 Q
noncomputable def rI (C:Int→Int→Prop) (g:Int→Int→V):R2:=fun x y H Q=>∃ i j,x=.int i∧y=.int j∧C i j∧Q (g i j) H
noncomputable def rI0 (g:Int→Int→V):R2:=fun x y H Q=>∃ i j,x=.int i∧y=.int j∧Q (g i j) H
section
variable {X:Cx} {a b c:Expr} {ta tb tc:TE} {pos:Pos}
theorem binT (ha:PE X a ta) (hb:PE X b tb) {pins:List (Addr×Obj)} {s:Shared} {σ:St} {H:Hp} {R:V→V→Hp→Prop} (I:Inv X pins σ H s)
    (h:ta σ H fun x H1=>tb σ H1 fun y H2=>R x y H2) {Q:Value→Shared→Prop} {f:Value→Value→Sem Value}
    (hf:∀ v u s2 x y H2,Inv X pins σ H2 s2→RelV x v→RelV y u→R x y H2→wpAny (model X.prog X.w) X.A (f v u) Q X.xe s2) :
    wpAny (model X.prog X.w) X.A (eval a X.env) (fun v s₁=>wpAny (model X.prog X.w) X.A (eval b X.env) (fun u s₂=>wpAny (model X.prog X.w) X.A (f v u) Q X.xe s₂) X.xe s₁) X.xe s:=by
  refine thnG (ha pins s σ H _ I h) fun v s1 x H1 I1 r1 q1=>?_
  refine thnG (hb pins s1 σ H1 _ I1 q1) fun u s2 y H2 I2 r2 q2=>?_
  exact hf v u s2 x y H2 I2 r1 r2 q2
theorem pe_op {op:Operator} {r:R2} (ho:OpR X (binaryOp op) r) (ha:PE X a ta) (hb:PE X b tb):PE X (.BinOp a op b pos) (tOp r ta tb):=by
  intro pins s σ H Q I h
  exact wpAny_BinOp (binT ha hb I h fun v u s2 x y H2 I2 rx ry q=>ho pins s2 σ H2 x y v u Q I2 rx ry q)
theorem opI {f:Value→Value→Sem Value} {C:Int→Int→Prop} {g:Int→Int→Int}
    (rule:∀ (i j:Int) (t u:Tok) (s:Shared) (Q:Value→Shared→Prop) (E:Value→Shared→Prop),C i j→Q (.int (g i j) s.toks) { s with toks:=s.toks + 1 }→wpAny (model X.prog X.w) X.A (f (.int i t) (.int j u)) Q E s) :
    OpR X f (rI C fun i j=>.int (g i j)):=by
  intro pins s σ H x y v u Q I rx ry h
  obtain ⟨i,j,rfl,rfl,hc,q⟩:=h
  obtain ⟨t,rfl⟩:=rx
  obtain ⟨t',rfl⟩:=ry
  exact rule i j t t' s _ _ hc ⟨.int (g i j),H,I.tok _,⟨_,rfl⟩,q⟩
theorem opI0 {f:Value→Value→Sem Value} {g:Int→Int→Int}
    (rule:∀ (i j:Int) (t u:Tok) (s:Shared) (Q:Value→Shared→Prop) (E:Value→Shared→Prop),Q (.int (g i j) s.toks) { s with toks:=s.toks + 1 }→wpAny (model X.prog X.w) X.A (f (.int i t) (.int j u)) Q E s) :
    OpR X f (rI0 fun i j=>.int (g i j)):=by
  intro pins s σ H x y v u Q I rx ry h
  obtain ⟨i,j,rfl,rfl,q⟩:=h
  obtain ⟨t,rfl⟩:=rx
  obtain ⟨t',rfl⟩:=ry
  exact rule i j t t' s _ _ ⟨.int (g i j),H,I.tok _,⟨_,rfl⟩,q⟩
theorem opB0 {f:Value→Value→Sem Value} {g:Int→Int→Bool}
    (rule:∀ (i j:Int) (t u:Tok) (s:Shared) (Q:Value→Shared→Prop) (E:Value→Shared→Prop),Q (.bool (g i j)) s→wpAny (model X.prog X.w) X.A (f (.int i t) (.int j u)) Q E s) :
    OpR X f (rI0 fun i j=>.bl (g i j)):=by
  intro pins s σ H x y v u Q I rx ry h
  obtain ⟨i,j,rfl,rfl,q⟩:=h
  obtain ⟨t,rfl⟩:=rx
  obtain ⟨t',rfl⟩:=ry
  exact rule i j t t' s _ _ ⟨.bl (g i j),H,I,rfl,q⟩
noncomputable def CDiv (i j:Int):Prop:=0 < j∧j < 1073741824
noncomputable def CPow (i j:Int):Prop:=0≤j∧j≤1000000∧i.natAbs < 2 ^ 64
noncomputable def CMul (i j:Int):Prop:=(-(2 ^ 64) < i∧i < 2 ^ 64)∨(-(2 ^ 64) < j∧j < 2 ^ 64)
theorem CMul.ok {i j:Int} (h:CMul i j):IntMulOk i j:=by
  rcases h with ⟨h1,h2⟩ | ⟨h1,h2⟩
  · exact .of_left (intBits_le_64 h1 h2)
  · exact .of_right (intBits_le_64 h1 h2)
theorem op_add:OpR X (binaryOp .Add) (rI0 fun i j=>.int (i + j)):=opI0 fun _ _ _ _ _ _ _ q=>add_int q
theorem op_sub:OpR X (binaryOp .Sub) (rI0 fun i j=>.int (i - j)):=opI0 fun _ _ _ _ _ _ _ q=>sub_int q
theorem op_mul:OpR X (binaryOp .Mult) (rI CMul fun i j=>.int (i * j)):=opI fun _ _ _ _ _ _ _ hc q=>mul_int q hc.ok
theorem op_fdiv:OpR X (binaryOp .FloorDiv) (rI CDiv fun i j=>.int (i / j)):=opI fun i j _ _ _ _ _ hc q=>by
  have h1:(0:Int) < j:=hc.1
  have h2:j < 1073741824:=hc.2
  exact floordiv_int (by lia) (by rw [Int.fdiv_eq_ediv_of_nonneg i (by lia)]; exact q) (.inl (PyProof.noPylong_small (by lia)))
theorem op_mod:OpR X (binaryOp .Mod) (rI (fun _ j=>0 < j) fun i j=>.int (i % j)):=opI fun i j _ _ _ _ _ hc q=>by
  have h1:(0:Int) < j:=hc
  exact mod_int' (by lia) (by rw [Int.fmod_eq_emod_of_nonneg i (by lia)]; exact q)
theorem op_pow:OpR X (binaryOp .Pow) (rI CPow fun i j=>.int (i ^ j.toNat)):=opI fun _ _ _ _ _ _ _ hc q=>pow_int_small hc.1 hc.2.1 hc.2.2 q
end
section
variable {X:Cx} {a b c:Expr} {ta tb tc:TE} {pos:Pos}
theorem op_lt:OpR X (compareOp .Lt) (rI0 fun i j=>.bl (decide (i < j))):=opB0 fun _ _ _ _ _ _ _ q=>lt_int q
theorem op_le:OpR X (compareOp .LtE) (rI0 fun i j=>.bl (decide (i≤j))):=opB0 fun _ _ _ _ _ _ _ q=>le_int q
theorem op_gt:OpR X (compareOp .Gt) (rI0 fun i j=>.bl (decide (j < i))):=opB0 fun _ _ _ _ _ _ _ q=>gt_int q
theorem OpR.or {f:Value→Value→Sem Value} {r r':R2} (h:OpR X f r) (h':OpR X f r'):OpR X f (fun x y H Q=>r x y H Q∨r' x y H Q):=by
  intro pins s σ H x y v u Q I rx ry q
  rcases q with q | q
  · exact h pins s σ H x y v u Q I rx ry q
  · exact h' pins s σ H x y v u Q I rx ry q
theorem nomark (b:Expr) {op:CmpOp} (h:op≠.In:=by decide) (h2:op≠.NotIn:=by decide):behindInMarks op b=false:=by
  have e1:(op == CmpOp.In)=false:=by cases op <;> first | rfl | exact absurd rfl h
  have e2:(op == CmpOp.NotIn)=false:=by cases op <;> first | rfl | exact absurd rfl h2
  cases b <;> simp [behindInMarks,e1,e2]
theorem pe_cmpR {op:CmpOp} {r:R2} (ho:OpR X (compareOp op) r) (ha:PE X a ta) (hb:PE X b tb) (hm:behindInMarks op b=false):PE X (.Compare a [op] [b] pos) (tOp r ta tb):=by
  intro pins s σ H Q I h
  exact wpAny_Compare1 (binT ha hb I h fun v u s2 x y H2 I2 rx ry q=>ho pins s2 σ H2 x y v u Q I2 rx ry q) hm
noncomputable def tTest (t:TE):TT:=fun σ H Q=>t σ H fun x H'=>∃ k,x=.bl k∧Q k H'
theorem pt_cmpR {op:CmpOp} {r:R2} (ho:OpR X (compareOp op) r) (ha:PE X a ta) (hb:PE X b tb) (hm:behindInMarks op b=false):PT X (.Compare a [op] [b] pos) (tTest (tOp r ta tb)):=by
  intro pins s σ H Q I h
  refine wpAny_isTrue_Compare1 (thnG (ha pins s σ H _ I h) fun v s1 x H1 I1 r1 q1=>thnG (hb pins s1 σ H1 _ I1 q1) fun u s2 y H2 I2 r2 q2=>
    thnG (ho pins s2 σ H2 x y v u _ I2 r1 r2 q2) fun c s3 z H3 I3 r3 ⟨k,e,q3⟩=>?_) hm
  subst e
  cases r3
  exact wpAny_truthy_bool ⟨H3,I3,q3⟩
noncomputable def tChain (r r':R2) (ta tb tc:TE):TE:=fun σ H Q=>ta σ H fun x H1=>tb σ H1 fun y H2=>r x y H2 fun z H3=>∃ k,z=.bl k ∧
  (if k=true then tc σ H3 fun w' H4=>r' y w' H4 Q else Q (.bl false) H3)
theorem pe_chain {op op':CmpOp} {r r':R2} (ho:OpR X (compareOp op) r) (ho':OpR X (compareOp op') r') (ha:PE X a ta) (hb:PE X b tb) (hc:PE X c tc)
    (hm:lastMarks [op,op'] [b,c]=false:=by with_unfolding_all rfl):PE X (.Compare a [op,op'] [b,c] pos) (tChain r r' ta tb tc):=by
  intro pins s σ H Q I h
  refine Compare_chain (thnG (ha pins s σ H _ I h) fun v s1 x H1 I1 r1 q1=>chain_link (thnG (hb pins s1 σ H1 _ I1 q1) fun u s2 y H2 I2 r2 q2=>
    thnG (ho pins s2 σ H2 x y v u _ I2 r1 r2 q2) fun d s3 z H3 I3 r3 ⟨k,e,q3⟩=>?_)) hm
  subst e
  cases r3
  refine wpAny_truthy_bool ?_
  cases k with
  | false=>exact ite_ff ⟨.bl false,H3,I3,rfl,q3⟩
  | true=>exact ite_tt (chain_last (thnG (hc pins s3 σ H3 _ I3 q3) fun w' s4 z' H4 I4 r4 q4=>ho' pins s4 σ H4 y z' u w' Q I4 r2 r4 q4))
theorem pt_chain {op op':CmpOp} {r r':R2} (ho:OpR X (compareOp op) r) (ho':OpR X (compareOp op') r') (ha:PE X a ta) (hb:PE X b tb) (hc:PE X c tc)
    (hm:lastMarks [op,op'] [b,c]=false:=by with_unfolding_all rfl):PT X (.Compare a [op,op'] [b,c] pos) (tTest (tChain r r' ta tb tc)):=by
  intro pins s σ H Q I h
  refine isTrue_chain (thnG (ha pins s σ H _ I h) fun v s1 x H1 I1 r1 q1=>test_link (thnG (hb pins s1 σ H1 _ I1 q1) fun u s2 y H2 I2 r2 q2=>
    thnG (ho pins s2 σ H2 x y v u _ I2 r1 r2 q2) fun d s3 z H3 I3 r3 ⟨k,e,q3⟩=>?_)) hm
  subst e
  cases r3
  refine wpAny_truthy_bool ?_
  cases k with
  | false=>
    obtain ⟨k',e',q'⟩:=q3
    cases e'
    exact ite_ff ⟨H3,I3,q'⟩
  | true=>
    refine ite_tt (test_last (thnG (hc pins s3 σ H3 _ I3 q3) fun w' s4 z' H4 I4 r4 q4=>thnG (ho' pins s4 σ H4 y z' u w' _ I4 r2 r4 q4) fun d' s5 z2 H5 I5 r5 hh_=>?_))
    obtain ⟨k2,e2,q5⟩:=hh_
    subst e2
    cases r5
    exact wpAny_truthy_bool ⟨H5,I5,q5⟩
theorem line63:(sizeLine:Nat) < 2 ^ 63:=by rw [sizeLine_eq]; decide
theorem op_add_str:OpR X (binaryOp .Add) (fun x y H Q=>∃ i j,x=.str i∧y=.str j∧i.length + j.length≤sizeLine∧Q (.str (i++j)) H):=by
  intro pins s σ H x y v u Q I rx ry h
  obtain ⟨i,j,rfl,rfl,hz,q⟩:=h
  obtain ⟨t,rfl⟩:=rx
  obtain ⟨t',rfl⟩:=ry
  exact add_str (fun t' tk=>⟨.str (i++j),H,I.tok _,⟨_,rfl⟩,q⟩) hz
theorem vals1 {x:V} {us:List Value} (r:Vals [x] us):∃ u,us=[u]∧RelV x u:=by
  cases r with
  | cons r1 r2=>cases r2; exact ⟨_,rfl,r1⟩
theorem vals2 {x y:V} {us:List Value} (r:Vals [x,y] us):∃ u w',us=[u,w']∧RelV x u∧RelV y w':=by
  cases r with
  | cons r1 r2=>
    cases r2 with
    | cons r3 r4=>cases r4; exact ⟨_,_,rfl,r1,r3⟩
theorem call_int1:CallR X (.type "int") (fun xs H Q=>(∃ i,xs=[.int i]∧Q (.int i) H)∨∃ k,xs=[.bl k]∧Q (.int (if k then 1 else 0)) H):=by
  intro pins s σ H xs us Q I r h
  rcases h with ⟨i,rfl,q⟩ | ⟨k,rfl,q⟩
  · obtain ⟨u,rfl,t,rfl⟩:=vals1 r
    exact call_int_int ⟨.int i,H,I,⟨_,rfl⟩,q⟩
  · obtain ⟨u,rfl,r1⟩:=vals1 r
    cases r1
    exact call_int_bool ⟨.int (if k then 1 else 0),H,I.tok _,⟨_,rfl⟩,q⟩
end
structure ObjM (h:Heap) (x dx C:Addr) (mA:Str→Option Value):Prop where
  obj:h.get? x=some (PySem.W.instObj C dx)
  ns:h.Ns1 dx mA
  ne:dx≠x
theorem lookIn_ns {h:Heap} {dx:Addr} {mA:Str→Option Value} (n:h.Ns1 dx mA):∃ od,h.get? dx=some od∧∀ name,PySem.W.lookIn name od=some (mA name):=by
  obtain ⟨o,es,ep,ho,hd,hk,_,hm⟩:=n
  refine ⟨o,ho,fun name=>?_⟩
  have e:=hm name
  unfold nsFind findBy at e
  rw [← Array.find?_toList] at e
  unfold PySem.W.lookIn
  rw [hd]
  dsimp only
  split
  · rename_i y q
    rw [q] at e
    exact congrArg some e
  · rename_i q
    rw [q] at e
    have a:es.toList.any (·.refKey)=false:=by
      rw [List.any_eq_false]
      intro y hy
      obtain ⟨z,t,hkey⟩:=hk y (Array.mem_toList_iff.mp hy)
      simp [DictEntry.refKey,hkey]
    have a':¬ es.toList.any (·.refKey)=true:=by rw [a]; exact Bool.false_ne_true
    rw [if_neg a']
    exact congrArg some e
theorem ObjM.look {h:Heap} {x dx C:Addr} {mA:Str→Option Value} (I:ObjM h x dx C mA):∃ od,PySem.W.InstAt h x (PySem.W.instObj C dx) C (some od)∧∀ name,PySem.W.lookIn name od=some (mA name):=
  let ⟨od,ho,hl⟩:=lookIn_ns I.ns
  ⟨od,⟨I.obj,rfl,rfl,ho⟩,hl⟩
section
variable {prog:Program} {w:World} {A:Around} {E:Value→Shared→Prop} {s:Shared} {K:PySem.W.Frag} {x dx C f:Addr} {mA:Str→Option Value} {name:Str} {v:Value}
theorem get_map {expr:Bool} {Q:Value→Shared→Prop} (X:K.In s.heap) (I:ObjM s.heap x dx C mA) (hg:PySem.W.plainGet K C name=true) (hh:PySem.W.hasDictIn K C=true)
    (ha:PySem.W.findIn K (.ref C) name=some none) (hv:mA name=some v) (hv':PySem.W.handedIn v=true) (h:Q v { s with toks:=s.toks + 1 }) :
    wpAny (model prog w) A (getAttr (.ref x) name expr) Q E s:=by
  obtain ⟨od,J,hl⟩:=I.look
  exact PySem.W.get_value X J (PySem.W.plainGet_of hg).1 (PySem.W.findObj_own hh ha rfl (by rw [hl,hv])) hv' h
theorem get_meth {pl:Sem Bool} {Q:Value×List Value→Shared→Prop} (X:K.In s.heap) (I:ObjM s.heap x dx C mA) (hg:PySem.W.plainGet K C name=true)
    (hf:PySem.W.findIn K (.ref C) name=some (some (.ref f))) (ht:PySem.W.isFn K (.ref f)=true) (hv:mA name=none) (h:Q (.ref f,[.ref x]) s) :
    wpAny (model prog w) A (getMethod (.ref x) name pl) Q E s:=by
  obtain ⟨od,J,hl⟩:=I.look
  exact PySem.W.method_fn X J (PySem.W.plainGet_of hg).1 (PySem.W.plainGet_of hg).2 hf (beq_iff_eq.mp ht) (by show (PySem.W.lookIn name od).map (·.isSome)=some false; rw [hl,hv]; rfl) h
theorem set_map {ns:List Str} {Q:Unit→Shared→Prop} (X:K.In s.heap) (I:ObjM s.heap x dx C mA)
    (hs:PySem.W.findIn K (.ref C) "__setattr__"=some (some (.builtin "object.__setattr__"))) (hp:PySem.W.plainOver K C=true) (ht:PySem.W.takerIn K C name=some none) (hh:PySem.W.hasDictIn K C=true)
    (hw:PySem.Within mA ns) (hsz:ns.length≤sizeLine)
    (h:∀ h',ObjM h' x dx C (fun y=>if y=name then some v else mA y)→Heap.SameBut dx s.heap h'→Q () { s with heap:=h',toks:=s.toks + 2 }) :
    wpAny (model prog w) A (setAttr (.ref x) name v) Q E s:=by
  obtain ⟨od,J,hl⟩:=I.look
  refine PySem.W.set_plain X J hs (PySem.W.osa_open (s:={ s with toks:=s.toks + 1 }) (r:=none) X J hp ht fun b=>?_)
  obtain ⟨cd,hc,hd'⟩:=PySem.W.any_some hh
  have hx:s.heap.get? x=some ⟨.ref C,some dx,.plain,#[]⟩:=I.obj
  refine wpAny_bind (wpAny_pure (wpAny_bind (wpAny_bind (wpAny_loadPart hx (wpAny_bind (PySem.W.Looks.here (s:={ s with toks:=s.toks + 1 }) (PySem.W.looks_clsIn X hc) ?_))))))
  rw [hd']
  refine wpAny_pure (a:=some dx) (wpAny_bind (wpAny_pure (wpAny_bind ?_)))
  refine wpAny_nsSet1 (s:={ s with toks:=s.toks + 1 }) I.ns fun h' hn2 hs2=>?_
  obtain ⟨oD,esD,epD,hoD,hdD,hcD⟩:=hn2.count (PySem.Within.cons name v hw)
  refine wpAny_bind (wpAny_lookBehind hoD (by rw [hdD]; exact pastItsLine_dict (Nat.le_trans hcD (by rw [List.length_cons]; lia))) ?_)
  exact wpAny_pure (h _ ⟨(hs2.2 _ (Ne.symm I.ne)).trans I.obj,hn2,I.ne⟩ hs2)
theorem make_map {R:Result→Shared→Prop} {vs:List Value} {kw:List (Str×Value)} (X:K.In s.heap) (hm:PySem.W.makesIn K C=true)
    (hi:PySem.W.findIn K (.ref C) "__init__"=some (some (.ref f))) (hf:PySem.W.typeIn K (.ref f)=some (.type "function"))
    (h:codeAny (model prog w) (A.under (.builtin "type.__call__" ⟨.ref C::vs,kw⟩)) (.call (.ref f) ⟨.ref (s.heap.objs.size + 1)::vs,kw⟩) (PySem.W.InitBack (s.heap.objs.size + 1) R)
      { s with heap:=(s.heap.push PySem.W.emptyDict).push (PySem.W.instObj C s.heap.objs.size) }) :
    codeAny (model prog w) A (.call (.ref C) ⟨vs,kw⟩) R s:=by
  obtain ⟨hh,g,d,t,os⟩:=s
  exact PySem.W.make_core (PySem.W.makes_of X hm) (PySem.W.looks_findIn X hi) (fun self=>PySem.W.bind_fn X self hf) (.inl rfl) h
end
noncomputable def putF (f:Str) (v:V):List (Str×V)→List (Str×V)
  | []=>[(f,v)]
  | (g,x)::r=>if g=f then (g,v)::r else (g,x)::putF f v r
theorem lookup_putF (f g:Str) (v:V):∀ fs:List (Str×V),(putF f v fs).lookup g=if g=f then some v else fs.lookup g
  | []=>by
    show List.lookup g [(f,v)]=_
    by_cases h:g=f
    · have hb:(g == f)=true:=beq_iff_eq.mpr h
      simp only [List.lookup,hb,if_pos h]
    · have hb:(g == f)=false:=beq_eq_false_iff_ne.mpr h
      simp only [List.lookup,hb,if_neg h]
  | (k,x)::r=>by
    have ih:=lookup_putF f g v r
    rw [show putF f v ((k,x)::r)=(if k=f then (k,v)::r else (k,x)::putF f v r) from rfl]
    by_cases hk:k=f
    · rw [if_pos hk]
      by_cases h:g=k
      · have hb:(g == k)=true:=beq_iff_eq.mpr h
        simp only [List.lookup,hb,if_pos (h.trans hk)]
      · have hb:(g == k)=false:=beq_eq_false_iff_ne.mpr h
        simp only [List.lookup,hb,if_neg (fun e:g=f=>h (e.trans hk.symm))]
    · rw [if_neg hk]
      by_cases h:g=k
      · have hb:(g == k)=true:=beq_iff_eq.mpr h
        simp only [List.lookup,hb,if_neg (fun e:g=f=>hk (h.symm.trans e))]
      · have hb:(g == k)=false:=beq_eq_false_iff_ne.mpr h
        simp only [List.lookup,hb]
        exact ih
theorem keys_putF (f:Str) (v:V):∀ fs:List (Str×V),f∈(putF f v fs).map (·.1)∧∀ g,g∈fs.map (·.1)→g∈(putF f v fs).map (·.1)
  | []=>⟨by simp [putF],fun g h=>by simp at h⟩
  | (k,x)::r=>by
    obtain ⟨i1,i2⟩:=keys_putF f v r
    rw [show putF f v ((k,x)::r)=(if k=f then (k,v)::r else (k,x)::putF f v r) from rfl]
    by_cases hk:k=f
    · rw [if_pos hk]
      subst hk
      exact ⟨by simp,fun g h=>by simpa using h⟩
    · rw [if_neg hk]
      refine ⟨?_,fun g h=>?_⟩
      · rw [List.map_cons]
        exact List.mem_cons_of_mem _ i1
      · rw [List.map_cons] at h ⊢
        rcases List.mem_cons.mp h with e | e
        · exact List.mem_cons.mpr (.inl e)
        · exact List.mem_cons_of_mem _ (i2 g e)
theorem length_putF (f:Str) (v:V):∀ fs:List (Str×V),(putF f v fs).length≤fs.length + 1
  | []=>by simp [putF]
  | (k,x)::r=>by
    have ih:=length_putF f v r
    rw [show putF f v ((k,x)::r)=(if k=f then (k,v)::r else (k,x)::putF f v r) from rfl]
    by_cases hk:k=f
    · rw [if_pos hk,List.length_cons,List.length_cons]; lia
    · rw [if_neg hk,List.length_cons,List.length_cons]; lia
theorem RelO.some_of {v:V} {o:Option Value} (r:RelO (some v) o):∃ u,o=some u∧RelV v u:=by
  cases o with
  | none=>exact (show False from r).elim
  | some u=>exact ⟨u,rfl,r⟩
theorem RelO.none_of {o:Option Value} (r:RelO none o):o=none:=by
  cases o with
  | none=>rfl
  | some u=>exact (show False from r).elim
theorem handed_of {v:V} {u:Value} (r:RelV v u):PySem.W.handedIn u=true:=by
  cases v with
  | non=>cases (show u=Value.none from r); rfl
  | bl b=>cases (show u=Value.bool b from r); rfl
  | int i=>obtain ⟨t,e⟩:=(show ∃ t,u=Value.int i t from r); cases e; rfl
  | str x=>obtain ⟨t,e⟩:=(show ∃ t,u=Value.str x t from r); cases e; rfl
  | byt b=>obtain ⟨t,e⟩:=(show ∃ t,u=Value.bytes b t from r); cases e; rfl
  | flt b=>obtain ⟨t,e⟩:=(show ∃ t,u=Value.float b t from r); cases e; rfl
  | ref a=>cases (show u=Value.ref a from r); rfl
  | ty n=>cases (show u=Value.type n from r); rfl
section
variable {P:Program} {w:World} {H H':Hp} {h h':Heap} {a C dx:Addr} {fs fs':List (Str×V)}
theorem ins_get (hok:HOk P w H h) (e:H a=some (.ins C dx fs)):∃ mA,ObjM h a dx C mA∧(∀ f,RelO (fs.lookup f) (mA f))∧PySem.Within mA (fs.map (·.1))∧fs.length≤1000∧H dx=some (.own a):=by
  obtain ⟨d,z,ne,ob,mA,n,r,q⟩:=(show ObjOk P w H h a (.ins C dx fs) from hok a _ e)
  exact ⟨mA,⟨ob,n,ne⟩,r,q,z,d⟩
end
structure Cls (K:PySem.W.Frag) (C:Addr):Prop where
  pg:PySem.W.plainGet K C Str.empty=true
  hd:PySem.W.hasDictIn K C=true
  po:PySem.W.plainOver K C=true
  sa:PySem.W.findIn K (.ref C) "__setattr__"=some (some (.builtin "object.__setattr__"))
theorem Cls.get {K:PySem.W.Frag} {C:Addr} (c:Cls K C) (f:Str):PySem.W.plainGet K C f=true:=c.pg
noncomputable def NoAttr (K:PySem.W.Frag) (C:Addr) (f:Str):Prop:=PySem.W.findIn K (.ref C) f=some none
theorem NoAttr.taker {K:PySem.W.Frag} {C:Addr} {f:Str} (n:NoAttr K C f):PySem.W.takerIn K C f=some none:=by
  unfold PySem.W.takerIn
  rw [show PySem.W.findIn K (.ref C) f=some none from n]
  rfl
structure Meth (K:PySem.W.Frag) (C:Addr) (m:Str) (f:Addr):Prop where
  at_:PySem.W.findIn K (.ref C) m=some (some (.ref f))
  fn:PySem.W.isFn K (.ref f)=true
  kp:PySem.W.keepIn K (.ref f)=true
section
variable {X:Cx} {pins:List (Addr×Obj)} {σ:St} {H:Hp} {s:Shared} {a C dx:Addr} {fs:List (Str×V)} {f:Str} {v:V} {A:Around} {E:Value→Shared→Prop}
theorem getattr_ok {b:Bool} {Q:Value→Shared→Prop} (I:Inv X pins σ H s) (e:H a=some (.ins C dx fs)) (c:Cls X.K C) (n:NoAttr X.K C f) (l:fs.lookup f=some v)
    (h:∀ u s',Inv X pins σ H s'→RelV v u→Q u s'):wpAny (model X.prog X.w) A (getAttr (.ref a) f b) Q E s:=by
  obtain ⟨mA,O,r,_,_,_⟩:=ins_get I.hok e
  obtain ⟨u,hu,ru⟩:=RelO.some_of (v:=v) (o:=mA f) (by rw [← l]; exact r f)
  exact get_map I.kIn O (c.get f) c.hd n hu (handed_of ru) (h u _ (I.tok _) ru)
theorem getmeth_ok {m:Str} {g:Addr} {pl:Sem Bool} {Q:Value×List Value→Shared→Prop} (I:Inv X pins σ H s) (e:H a=some (.ins C dx fs)) (c:Cls X.K C) (k:Meth X.K C m g) (l:fs.lookup m=none)
    (h:Q (.ref g,[.ref a]) s):wpAny (model X.prog X.w) A (getMethod (.ref a) m pl) Q E s:=by
  obtain ⟨mA,O,r,_,_,_⟩:=ins_get I.hok e
  have hn:mA m=none:=RelO.none_of (by rw [← l]; exact r m)
  exact get_meth I.kIn O (c.get m) k.at_ k.fn hn h
theorem setattr_ok {y:V} {u:Value} {Q:Unit→Shared→Prop} (I:Inv X pins σ H s) (e:H a=some (.ins C dx fs)) (c:Cls X.K C) (n:NoAttr X.K C f) (hl:fs.length < 1000) (ry:RelV y u)
    (h:∀ s',Inv X pins σ (upd H a (.ins C dx (putF f y fs))) s'→Q () s'):wpAny (model X.prog X.w) A (setAttr (.ref a) f u) Q E s:=by
  obtain ⟨mA,O,r,wi,_,ho⟩:=ins_get I.hok e
  have hz:(fs.map (·.1)).length≤sizeLine:=by rw [List.length_map,sizeLine_eq]; lia
  refine set_map I.kIn O c.sa c.po n.taker c.hd wi hz fun h' O' sb=>h _ ?_
  have hd:∃ o,h'.get? dx=some o:=let ⟨o,_,_,e',_⟩:=O'.ns; ⟨o,e'⟩
  refine I.write (x:=a) (e:=dx) (by rw [e]; exact True.intro) (.inr ho) (fun b q hb z=>(sb.2 b hb).trans z) hd ?_
  refine ⟨by rw [upd_ne O.ne]; exact ho,?_,O.ne,O'.obj,_,O'.ns,fun g=>?_,fun g hg=>?_⟩
  · have:=length_putF f y fs; lia
  · show RelO ((putF f y fs).lookup g) (if g=f then some u else mA g)
    rw [lookup_putF]
    by_cases q:g=f
    · rw [if_pos q,if_pos q]; exact ry
    · rw [if_neg q,if_neg q]; exact r g
  · by_cases q:g=f
    · rw [q]; exact (keys_putF f y fs).1
    · refine (keys_putF f y fs).2 g (wi g fun z=>hg ?_)
      show (if g=f then some u else mA g)=none
      rw [if_neg q]; exact z
theorem Inv.made (I:Inv X pins σ H s):Inv X pins σ (upd (upd H s.heap.objs.size (.own (s.heap.objs.size + 1))) (s.heap.objs.size + 1) (.ins C s.heap.objs.size []))
    { s with heap:=(s.heap.push PySem.W.emptyDict).push (PySem.W.instObj C s.heap.objs.size) }:=by
  have e1:(s.heap.push PySem.W.emptyDict).get? s.heap.objs.size=some PySem.W.emptyDict:=Heap.get?_push_size s.heap rfl
  have e2:((s.heap.push PySem.W.emptyDict).push (PySem.W.instObj C s.heap.objs.size)).get? (s.heap.objs.size + 1)=some (PySem.W.instObj C s.heap.objs.size):=by
    have:=Heap.get?_push_size (s.heap.push PySem.W.emptyDict) (o:=PySem.W.instObj C s.heap.objs.size) rfl
    rwa [Heap.size_push] at this
  have e3:(s.heap.push PySem.W.emptyDict).Ns s.heap.objs.size (fun _=>none):=⟨PySem.W.emptyDict,#[],_,e1,rfl,(fun e he=>absurd he (by simp)),fun _=>rfl⟩
  have I1:=I.laid (a:=s.heap.objs.size) (o:=.own (s.heap.objs.size + 1)) (h':=s.heap.push PySem.W.emptyDict) (t':=s.toks) (fun b u q=>Heap.get?_push_of_some _ q) (Nat.le_refl _) ⟨_,e1⟩
  refine I1.laid (a:=s.heap.objs.size + 1) (o:=.ins C s.heap.objs.size []) (t':=s.toks) (fun b u q=>Heap.get?_push_of_some _ q) (Nat.le_of_eq (Heap.size_push _ _)) ?_
  have ne:s.heap.objs.size≠s.heap.objs.size + 1:=Nat.ne_of_lt (Nat.lt_succ_self _)
  refine ⟨by rw [upd_ne ne,upd_same],Nat.zero_le _,ne,e2,fun _=>none,(Heap.Ns1.of_empty e3).at fun o q=>Heap.get?_push_of_some _ q,fun _=>True.intro,fun y hy=>absurd rfl hy⟩
theorem attr_of {prog:Program} {w:World} {env:Env} {e:Expr} {f:Str} {pos:Pos} {s:Shared} {Q:Value→Shared→Prop} (hb:attributeBase e f env (eval e env)=eval e env)
    (h:wpAny (model prog w) A (eval e env) (fun o s₁=>wpAny (model prog w) A (getAttr o f true) Q E s₁) E s):wpAny (model prog w) A (eval (.Attribute e f pos) env) Q E s:=
  Attribute_any_ h (by rw [arm_eval_Attribute,hb])
end
noncomputable def tFld (K:PySem.W.Frag) (ta:TE) (f:Str):TE:=fun σ H Q=>ta σ H fun x H1=>∃ a C dx fs v,x=.ref a∧H1 a=some (.ins C dx fs)∧Cls K C∧NoAttr K C f∧fs.lookup f=some v∧Q v H1
noncomputable def sFld (K:PySem.W.Frag) (ta tv:TE) (f:Str):TS:=fun D σ H=>tv σ H fun y H1=>ta σ H1 fun x H2=>∃ a C dx fs,x=.ref a∧H2 a=some (.ins C dx fs)∧Cls K C∧NoAttr K C f∧fs.length < 1000 ∧
  D.nx σ (upd H2 a (.ins C dx (putF f y fs)))
section
variable {X:Cx} {o e value:Expr} {f:Str} {pos pos' tpos:Pos} {ta tv:TE}
theorem pe_fld (he:PE X e ta) (hb:attributeBase e f X.env (eval e X.env)=eval e X.env):PE X (.Attribute e f pos) (tFld X.K ta f):=by
  intro pins s σ H Q I h
  refine attr_of hb (thnG (he pins s σ H _ I h) fun u s1 x H1 I1 rx hh_=>?_)
  obtain ⟨a,C,dx,fs,v,ex,ea,c,n,l,q⟩:=hh_
  subst ex
  obtain rfl:u=Value.ref a:=rx
  exact getattr_ok I1 ea c n l fun u' s2 I2 ru=>⟨v,H1,I2,ru,q⟩
theorem ps_fld (ha:PE X o ta) (hv:PE X value tv) (hs:swapsWith value (some (.Attribute o f pos')) pos.line X.env=pure false):PS X (.Assign [.Attribute o f pos'] value pos) (sFld X.K ta tv f):=by
  intro pins s σ H D I h
  refine plainObj_wpAny_Assign_Attribute (thnG (hv pins s σ H _ I h) fun u s1 y H1 I1 ry q=>thnG (ha pins s1 σ H1 _ I1 q) fun ov s2 x H2 I2 rx hh_=>?_) hs
  obtain ⟨a,C,dx,fs,ex,ea,c,n,l,q2⟩:=hh_
  subst ex
  obtain rfl:ov=Value.ref a:=rx
  exact setattr_ok I2 ea c n l ry fun s3 I3=>⟨σ,_,I3,q2⟩
end
section
variable {X:Cx} {pins:List (Addr×Obj)} {σ:St} {H:Hp} {s:Shared} {A:Around} {E:Value→Shared→Prop} {Q:Value→Shared→Prop} {c:Value} {b:Bool}
end
structure Room (k:Nat) (A:Around):Prop where
  hd:A.handled=none
  dp:A.depth + 3 * k + 5 < recursionLimit
  un:A.units + 16 * k + 200 < cLine
theorem Room.mono {j k:Nat} {A:Around} (r:Room k A) (h:j≤k):Room j A:=⟨r.hd,by have:=r.dp; lia,by have:=r.un; lia⟩
theorem Room.deeper {k:Nat} {A:Around} (r:Room (k + 1) A) (env:Env):Room k (A.deeper env):=
  ⟨r.hd,by have:=r.dp; show A.depth + 1 + 3 * k + 5 < _; lia,by have:=r.un; show A.units + 3 + 16 * k + 200 < _; lia⟩
theorem make_depth {A:Around} {C:Addr} {us:List Value} {kw:List (Str×Value)}:(A.under (.builtin "type.__call__" ⟨.ref C::us,kw⟩)).depth=A.depth + 1:=by
  first | rfl | simp [Around.under,Code.weight,Code.isCreation,Code.isGuard,Code.isCaller,Code.frames,Code.isFrame,guardIds]
theorem make_units {A:Around} {C:Addr} {us:List Value} {kw:List (Str×Value)}:(A.under (.builtin "type.__call__" ⟨.ref C::us,kw⟩)).units=A.units + 1:=by
  first | rfl | simp [Around.under,Code.cUnits,Code.frames,Code.isFrame]
theorem Room.make {k:Nat} {A:Around} (r:Room (k + 1) A) (C:Addr) (us:List Value) (kw:List (Str×Value)):Room k (A.under (.builtin "type.__call__" ⟨.ref C::us,kw⟩)):=
  ⟨r.hd,by have:=r.dp; rw [make_depth]; lia,by have:=r.un; rw [make_units]; lia⟩
theorem Room.depth {k:Nat} {A:Around} (r:Room k A):A.depth < recursionLimit:=by have:=r.dp; lia
noncomputable def tNil:TA:=fun _ H Q=>Q [] H
noncomputable def tCons (ta:TE) (tr:TA):TA:=fun σ H Q=>ta σ H fun x H1=>tr σ H1 fun xs H2=>Q (x::xs) H2
section
variable {X:Cx} {e:Expr} {es:List Expr} {te:TE} {t:TA} {pos:Pos}
theorem pa_nil:PA X [] tNil:=fun _ _ _ _ H Q I h=>Calls.spliced_nil ⟨[],H,I,.nil,h⟩
theorem pa_cons (ha:PE X e te) (hr:PA X es t) (hs:starEach (e::es) X.env=(false,eval e X.env)::starEach es X.env:=by rfl):PA X (e::es) (tCons te t):=by
  intro pos pins s σ H Q I h
  rw [hs]
  show wpAny _ _ (spliced ((false,eval e X.env)::backTo pos (starEach es X.env))) _ _ s
  refine Calls.spliced_cons (thnG (ha pins s σ H _ I h) fun u s1 x H1 I1 r1 q1=>?_)
  exact thnG (hr pos pins s1 σ H1 _ I1 q1) fun us s2 xs H2 I2 r2 q2=>⟨x::xs,H2,I2,.cons r1 r2,q2⟩
noncomputable def tTup (t:TA):TE:=fun σ H Q=>t σ H fun xs H1=>xs.length≤sizeLine∧∀ p,H1 p=none→Q (.ref p) (upd H1 p (.tup xs))
noncomputable def tLst (t:TA):TE:=fun σ H Q=>t σ H fun xs H1=>xs.length≤sizeLine∧∀ p,H1 p=none→Q (.ref p) (upd H1 p (.lst xs))
theorem pe_tup {x1} (h:PA X es t):PE X (.Tuple es x1 pos) (tTup t):=by
  intro pins s σ H Q I hq
  refine wpAny_Tuple_spliced (thnG (h pos pins s σ H _ I hq) fun us s1 xs H1 I1 r ⟨z,q⟩=>⟨by rw [← r.length]; exact z,?_⟩)
  have hf:H1 s1.heap.objs.size=none:=I1.hok.fresh (Nat.le_refl _)
  refine ⟨.ref s1.heap.objs.size,upd H1 s1.heap.objs.size (.tup xs),I1.laid (t':=s1.toks) (fun b u e=>Heap.get?_push_of_some _ e) (Nat.le_refl _) ?_,rfl,q _ hf⟩
  exact ⟨z,us,r,⟨_,Heap.get?_push_size _ rfl,rfl,_,rfl⟩⟩
theorem pe_lst (h:PA X es t):PE X (.List es pos) (tLst t):=by
  intro pins s σ H Q I hq
  refine wpAny_List_spliced (thnG (h pos pins s σ H _ I hq) fun us s1 xs H1 I1 r ⟨z,q⟩=>⟨by rw [← r.length]; exact z,?_⟩)
  have hf:H1 s1.heap.objs.size=none:=I1.hok.fresh (Nat.le_refl _)
  refine ⟨.ref s1.heap.objs.size,upd H1 s1.heap.objs.size (.lst xs),I1.laid (t':=s1.toks) (fun b u e=>Heap.get?_push_of_some _ e) (Nat.le_refl _) ?_,rfl,q _ hf⟩
  exact ⟨z,us,0,r,Heap.get?_push_size _ rfl⟩
end
noncomputable abbrev Sp:=List V→Hp→VK→XK→Prop
noncomputable abbrev CXT:=List Env→Hp→Shared→XK→Value→Shared→Prop
structure Env0 (P:Program) (w:World) (K:PySem.W.Frag) (mg:Str→Option Value) (base:Heap) (A:Around) (outer:List Env) (s:Shared) (H:Hp):Prop where
  frames:A.frames=some outer
  mod:Mod K mg base
  bs:∀ b o,base.get? b=some o→s.heap.get? b=some o∧H b=none
  bsz:base.objs.size≤s.heap.objs.size
  funs:s.heap.FunFrames base outer
  frf:∀ b∈frs outer,H b=none
  hok:HOk P w H s.heap
  bare:AllBare s.gens
noncomputable def CE (outer:List Env) (P:Program) (w:World) (H:Hp) (s:Shared) (Q:VK) (u:Value) (s':Shared):Prop:=
  ∃ v H',s'.os=s.os∧AllBare s'.gens∧Un (frs outer) [] H H' s.heap s'.heap∧HOk P w H' s'.heap∧RelV v u∧Q v H'
noncomputable def CR (CX:CXT) (outer:List Env) (P:Program) (w:World) (H:Hp) (s:Shared) (Q:VK) (E:XK) (r:Result) (s':Shared):Prop:=
  match r with
  | .ok (.ret u)=>CE outer P w H s Q u s'
  | .ok _=>False
  | .error e=>CX outer H s E e s'
structure FnOk (P:Program) (w:World) (K:PySem.W.Frag) (mg:Str→Option Value) (base:Heap) (CX:CXT) (k:Nat) (f:Addr) (fd:FuncData) (ps:List Str) (sp:Sp):Prop where
  len:∀ vs H Q E,sp vs H Q E→vs.length=ps.length
  run:∀ (A:Around) (outer:List Env) (s:Shared) (H:Hp) (args:Args) (us:List Value) (vs:List V) (Q:VK) (E:XK),Room k A→Env0 P w K mg base A outer s H→BindsTo s fd args (ps.zip us)→Vals vs us→sp vs H Q E→
    codeAny (model P w) A (.call (.ref f) args) (CR CX outer P w H s Q E) s
theorem FnOk.imp {P:Program} {w:World} {K:PySem.W.Frag} {mg:Str→Option Value} {base:Heap} {CX:CXT} {k:Nat} {f:Addr} {fd:FuncData} {ps:List Str} {sp sp':Sp} (F:FnOk P w K mg base CX k f fd ps sp)
    (h:∀ vs H Q E,sp' vs H Q E→sp vs H Q E):FnOk P w K mg base CX k f fd ps sp':=
  ⟨fun vs H Q E q=>F.len vs H Q E (h _ _ _ _ q),fun A outer s H args us vs Q E hr he hb hv hs=>F.run A outer s H args us vs Q E hr he hb hv (h _ _ _ _ hs)⟩
theorem Env0.make {P:Program} {w:World} {K:PySem.W.Frag} {mg:Str→Option Value} {base:Heap} {A:Around} {outer:List Env} {s:Shared} {H:Hp} (e:Env0 P w K mg base A outer s H) (C:Addr) (us:List Value) (kw:List (Str×Value)) :
    Env0 P w K mg base (A.under (.builtin "type.__call__" ⟨.ref C::us,kw⟩)) outer s H:=⟨by first | exact e.frames | (simpa [Around.under,Code.envs,Code.isFrame,pushEnvs] using e.frames),e.mod,e.bs,e.bsz,e.funs,e.frf,e.hok,e.bare⟩
section
variable {X:Cx} {pins:List (Addr×Obj)} {σ:St} {H:Hp} {s s':Shared}
theorem Inv.env0 (I:Inv X pins σ H s):Env0 X.prog X.w X.K X.mg X.base X.A X.stack s H:=
  ⟨I.ok.frames,I.ok.mod,I.bs,Nat.le_trans I.ok.bsz I.sz,I.stack,I.stkFree,I.hok,I.bare⟩
theorem Inv.after {Q:VK} {u:Value} (I:Inv X pins σ H s) (h:CE X.stack X.prog X.w H s Q u s'):EP X pins σ Q u s':=by
  obtain ⟨v,H',os,bare,un,hok,r,q⟩:=h
  obtain ⟨hh,g,d,t,os'⟩:=s'
  obtain rfl:os'=s.os:=os
  exact ⟨v,H',I.call (h':=hh) (g':=g) (d':=d) (t':=t) (ch:=[]) un hok bare (fun b z=>absurd z (by simp)),r,q⟩
end
noncomputable def tCall (sp:Sp) (dvs:List V) (E:XK) (t:TA):TE:=fun σ H Q=>t σ H fun vs H1=>sp (vs++dvs) H1 Q E
noncomputable def tMeth (C:Addr) (m:Str) (sp:Sp) (dvs:List V) (E:XK) (ta:TE) (t:TA):TE:=fun σ H Q=>ta σ H fun x H1=>∃ a dx fs,x=.ref a∧H1 a=some (.ins C dx fs)∧fs.lookup m=none ∧
  t σ H1 fun vs H2=>sp (x::(vs++dvs)) H2 Q E
noncomputable def tMake (C:Addr) (sp:Sp) (dvs:List V) (E:XK) (t:TA):TE:=fun σ H Q=>t σ H fun vs H1=>∀ x dx,H1 x=none→H1 dx=none→dx≠x→
  sp (.ref x::(vs++dvs)) (upd (upd H1 dx (.own x)) x (.ins C dx [])) (fun v H2=>v=.non∧Q (.ref x) H2) E
noncomputable def Binds (K:PySem.W.Frag) (fd:FuncData) (ps:List Str) (ds:List Value):Prop:=
  ∀ (s:Shared) (us:List Value),K.In s.heap→(us++ds).length=ps.length→BindsTo s fd ⟨us,[]⟩ (ps.zip (us++ds))
theorem Binds.all {K:PySem.W.Frag} {fd:FuncData} {ps:List Str} (h:∀ us:List Value,us.length=ps.length→bindArgs fd ⟨us,[]⟩=pure (ps.zip us)):Binds K fd ps []:=fun s us _ hl=>by
  rw [List.append_nil] at hl ⊢
  exact .of_eq (h us hl)
noncomputable def Passes (CX:CXT) (X:Cx) (E:XK):Prop:=∀ (pins:List (Addr×Obj)) (σ:St) (H:Hp) (s:Shared) (e:Value) (s':Shared),Inv X pins σ H s→CX X.stack H s E e s'→X.xe e s'
section
variable {X:Cx} {CX:CXT} {k:Nat} {f C:Addr} {fd:FuncData} {ps:List Str} {sp:Sp} {dvs:List V} {ds:List Value} {E:XK} {x m:Str} {p pos apos:Pos} {e o:Expr} {es:List Expr} {ta:TE} {t:TA}
theorem run_fn {pins:List (Addr×Obj)} {σ:St} {H:Hp} {s:Shared} {Q:VK} {us:List Value} {vs:List V} (F:FnOk X.prog X.w X.K X.mg X.base CX k f fd ps sp) (hr:Room k X.A) (hb:Binds X.K fd ps ds) (hd:Vals dvs ds) (hx:Passes CX X E)
    (I:Inv X pins σ H s) (r:Vals vs us) (h:sp (vs++dvs) H Q E):wpAny (model X.prog X.w) X.A (call (.ref f) us) (EP X pins σ Q) X.xe s:=by
  have r2:Vals (vs++dvs) (us++ds):=r.append hd
  have hl:(us++ds).length=ps.length:=by rw [← r2.length]; exact F.len _ _ _ _ h
  refine wpAny_call (codeAny_mono (F.run X.A X.stack s H ⟨us,[]⟩ (us++ds) (vs++dvs) Q E hr I.env0 (hb s us I.kIn hl) r2 h) fun r s' hq=>?_)
  cases r with
  | error e=>exact hx pins σ H s e s' I hq
  | ok fl=>
    cases fl with
    | ret u=>exact I.after hq
    | next=>exact False.elim hq
    | brk=>exact False.elim hq
    | cont=>exact False.elim hq
theorem pe_call (F:FnOk X.prog X.w X.K X.mg X.base CX k f fd ps sp) (hr:Room k X.A) (hg:Gl X x) (hm:X.mg x=some (.ref f)) (hk:PySem.W.keepIn X.K (.ref f)=true) (hb:Binds X.K fd ps ds) (hd:Vals dvs ds) (hx:Passes CX X E)
    (ha:PA X (e::es) t) (hdb:(x == ("__debug__":Str))=false:=by decide) (he:starEach (e::es) X.env=(false,eval e X.env)::starEach es X.env:=by rfl) (hpl:(backTo pos (starEach es X.env)).any (·.1)=false:=by rfl) :
    PE X (.Call (.Name x p) (e::es) [] pos) (tCall sp dvs E t):=by
  intro pins s σ H Q I h
  refine wpAny_Call_Name_kw (ld_glob I hg hm ?_ hdb)
  refine PySem.W.callWith_K (h₀:=X.base) I.ok.mod.kin hk (thnG (ha pos pins s σ H _ I h) fun us s1 vs H1 I1 r q=>⟨I1.kIn,?_⟩) he hpl
  exact run_fn F hr hb hd hx I1 r q
theorem pe_meth {pl:Sem Bool} (he:PE X o ta) (c:Cls X.K C) (hm:Meth X.K C m f) (F:FnOk X.prog X.w X.K X.mg X.base CX k f fd ps sp) (hr:Room k X.A) (hb:Binds X.K fd ps ds) (hd:Vals dvs ds) (hx:Passes CX X E) (ha:PA X (e::es) t)
    (hst:starEach (e::es) X.env=(false,eval e X.env)::starEach es X.env:=by rfl) (hpl:(backTo pos (starEach es X.env)).any (·.1)=false:=by rfl)
    (ht:eval (.Call (.Attribute o m apos) (e::es) [] pos) X.env=(do
      let ov ← eval o X.env
      standAt apos.atName
      let (f,first) ← holding [ov] (getMethod ov m pl)
      callWith pos f first (backTo pos (starEach (e::es) X.env)) (backToKw pos (keywordEach [] X.env))):=by rfl) :
    PE X (.Call (.Attribute o m apos) (e::es) [] pos) (tMeth C m sp dvs E ta t):=by
  intro pins s σ H Q I h
  refine PySem.W.methodCall_KW (pl:=pl) (thnG (he pins s σ H _ I h) fun u s1 x H1 I1 rx hh_=>?_) ht
  obtain ⟨a,dx,fs,ex,ea,l,q⟩:=hh_
  subst ex
  obtain rfl:u=Value.ref a:=rx
  refine getmeth_ok I1 ea c hm l ?_
  refine PySem.W.callWith_K (first:=[.ref a]) (h₀:=X.base) I.ok.mod.kin hm.kp (thnG (ha pos pins s1 σ H1 _ I1 q) fun us s2 vs H2 I2 r q2=>⟨I2.kIn,?_⟩) hst hpl
  exact run_fn (us:=.ref a::us) (vs:=.ref a::vs) F hr hb hd hx I2 (.cons rfl r) q2
theorem pe_meth0 {pl:Sem Bool} (he:PE X o ta) (c:Cls X.K C) (hm:Meth X.K C m f) (F:FnOk X.prog X.w X.K X.mg X.base CX k f fd ps sp) (hr:Room k X.A) (hb:Binds X.K fd ps ds) (hd:Vals dvs ds) (hx:Passes CX X E)
    (ht:eval (.Call (.Attribute o m apos) [] [] pos) X.env=(do
      let ov ← eval o X.env
      standAt apos.atName
      let (f,first) ← holding [ov] (getMethod ov m pl)
      callWith pos f first (backTo pos (starEach [] X.env)) (backToKw pos (keywordEach [] X.env))):=by rfl) :
    PE X (.Call (.Attribute o m apos) [] [] pos) (tMeth C m sp dvs E ta tNil):=by
  intro pins s σ H Q I h
  refine PySem.W.methodCall_KW (pl:=pl) (thnG (he pins s σ H _ I h) fun u s1 x H1 I1 rx hh_=>?_) ht
  obtain ⟨a,dx,fs,ex,ea,l,q⟩:=hh_
  subst ex
  obtain rfl:u=Value.ref a:=rx
  refine getmeth_ok I1 ea c hm l ?_
  exact PySem.W.callWith_K0 (first:=[.ref a]) I1.kIn hm.kp (run_fn (us:=[.ref a]) (vs:=[.ref a]) F hr hb hd hx I1 (.cons rfl .nil) q)
structure Mk (K:PySem.W.Frag) (C f:Addr):Prop where
  makes:PySem.W.makesIn K C=true
  init:PySem.W.findIn K (.ref C) "__init__"=some (some (.ref f))
  fn:PySem.W.isFn K (.ref f)=true
  kp:PySem.W.keepIn K (.ref C)=true
theorem run_make {pins:List (Addr×Obj)} {σ:St} {H:Hp} {s:Shared} {Q:VK} {us:List Value} {vs:List V} (M:Mk X.K C f) (F:FnOk X.prog X.w X.K X.mg X.base CX k f fd ps sp) (hr:Room (k + 1) X.A) (hb:Binds X.K fd ps ds) (hd:Vals dvs ds)
    (hx:Passes CX X E) (I:Inv X pins σ H s) (r:Vals vs us)
    (h:∀ x dx,H x=none→H dx=none→dx≠x→sp (.ref x::(vs++dvs)) (upd (upd H dx (.own x)) x (.ins C dx [])) (fun v H2=>v=.non∧Q (.ref x) H2) E) :
    wpAny (model X.prog X.w) X.A (call (.ref C) us) (EP X pins σ Q) X.xe s:=by
  have hq:=h (s.heap.objs.size + 1) s.heap.objs.size (I.hok.fresh (Nat.le_succ _)) (I.hok.fresh (Nat.le_refl _)) (Nat.ne_of_lt (Nat.lt_succ_self _))
  have I2:=Inv.made (C:=C) I
  have r2:Vals (V.ref (s.heap.objs.size + 1)::(vs++dvs)) (Value.ref (s.heap.objs.size + 1)::(us++ds)):=.cons rfl (r.append hd)
  have hl:(Value.ref (s.heap.objs.size + 1)::us++ds).length=ps.length:=by
    have e:=r2.length
    rw [F.len _ _ _ _ hq] at e
    exact e.symm
  refine wpAny_call (make_map (f:=f) I.kIn M.makes M.init (beq_iff_eq.mp M.fn) (codeAny_mono (F.run _ X.stack _ _ ⟨Value.ref (s.heap.objs.size + 1)::us,[]⟩ (Value.ref (s.heap.objs.size + 1)::(us++ds)) _ _ E (hr.make C us [])
    (I2.env0.make C us []) (hb _ (Value.ref (s.heap.objs.size + 1)::us) I2.kIn hl) r2 hq) fun r s' hq'=>?_))
  cases r with
  | error e=>exact hx pins σ _ _ e s' I2 hq'
  | ok fl=>
    cases fl with
    | ret u=>
      obtain ⟨v,H',I3,rv,ev,q3⟩:=I2.after hq'
      subst ev
      exact ⟨rv,⟨V.ref (s.heap.objs.size + 1),H',I3,rfl,q3⟩⟩
    | next=>exact False.elim hq'
    | brk=>exact False.elim hq'
    | cont=>exact False.elim hq'
theorem pe_make (M:Mk X.K C f) (F:FnOk X.prog X.w X.K X.mg X.base CX k f fd ps sp) (hr:Room (k + 1) X.A) (hg:Gl X x) (hm:X.mg x=some (.ref C)) (hb:Binds X.K fd ps ds) (hd:Vals dvs ds) (hx:Passes CX X E)
    (ha:PA X (e::es) t) (hdb:(x == ("__debug__":Str))=false:=by decide) (he:starEach (e::es) X.env=(false,eval e X.env)::starEach es X.env:=by rfl) (hpl:(backTo pos (starEach es X.env)).any (·.1)=false:=by rfl) :
    PE X (.Call (.Name x p) (e::es) [] pos) (tMake C sp dvs E t):=by
  intro pins s σ H Q I h
  refine wpAny_Call_Name_kw (ld_glob I hg hm ?_ hdb)
  refine PySem.W.callWith_K (h₀:=X.base) I.ok.mod.kin M.kp (thnG (ha pos pins s σ H _ I h) fun us s1 vs H1 I1 r q=>⟨I1.kIn,?_⟩) he hpl
  exact run_make M F hr hb hd hx I1 r q
end
section
variable {X:Cx} {CX:CXT} {k:Nat} {f C:Addr} {fd:FuncData} {ps ks:List Str} {sp:Sp} {E:XK} {x m:Str} {p pos apos kpos:Pos} {e o:Expr} {es:List Expr} {kws:List Keyword} {te ta:TE} {t tk:TA} {nm:Option Str}
variable {g:List Value→List Value→List Value} {gV:List V→List V→List V}
end
structure FnScope (N P:List Str) (sc:Scope):Prop where
  kind:sc.kind=.function
  co:sc.isCoroutine=false
  gen:sc.isGenerator=false
  nd:N.Nodup
  pre:N.take P.length=P
  par:∀ x∈P,sc.names.lookup x=some .local∨sc.names.lookup x=some .cell
  nofree:∀ y∈sc.names,y.2≠.free
theorem bindL_out {kindOf:Str→Option NameKind} {x:Str}:∀ {binds:List (Str×Value)} {m:Str→Option Value},(∀ v,(x,v)∉binds)→bindL kindOf binds m x=m x
  | [],_,_=>rfl
  | (n,v)::r,m,h=>by
    unfold bindL
    rw [bindL_out fun w hw=>h w (List.mem_cons_of_mem _ hw)]
    split
    · have:x≠n:=by rintro rfl; exact h v List.mem_cons_self
      simp [this]
    · rfl
theorem bindC_out {kindOf:Str→Option NameKind} {x:Str}:∀ {binds:List (Str×Value)} {m:Str→Option Value},(∀ v,(x,v)∉binds)→bindC kindOf binds m x=m x
  | [],_,_=>rfl
  | (n,v)::r,m,h=>by
    unfold bindC
    rw [bindC_out fun w hw=>h w (List.mem_cons_of_mem _ hw)]
    split
    · rfl
    · have:x≠n:=by rintro rfl; exact h v List.mem_cons_self
      simp [this]
theorem bindL_get {kindOf:Str→Option NameKind} {x:Str} {v:Value}:∀ {P:List Str} {vs:List Value} {i:Nat} {m:Str→Option Value},P.Nodup→P[i]?=some x→vs[i]?=some v→kindOf x=some .local→
    bindL kindOf (P.zip vs) m x=some v
  | [],_,_,_,_,h,_,_=>by simp at h
  | _::_,[],_,_,_,_,h,_=>by simp at h
  | p::P,w::vs,0,m,nd,h1,h2,hk=>by
    simp at h1 h2; subst h1; subst h2
    show bindL kindOf ((p,w)::P.zip vs) m p=_
    unfold bindL
    rw [bindL_out fun v hv=>(List.nodup_cons.mp nd).1 (List.of_mem_zip hv).1,if_pos hk]
    simp
  | p::P,w::vs,i + 1,m,nd,h1,h2,hk=>by
    show bindL kindOf ((p,w)::P.zip vs) m x=_
    unfold bindL
    exact bindL_get (i:=i) (List.nodup_cons.mp nd).2 (by simpa using h1) (by simpa using h2) hk
theorem bindC_get {kindOf:Str→Option NameKind} {x:Str} {v:Value}:∀ {P:List Str} {vs:List Value} {i:Nat} {m:Str→Option Value},P.Nodup→P[i]?=some x→vs[i]?=some v→kindOf x≠some .local→
    bindC kindOf (P.zip vs) m x=some v
  | [],_,_,_,_,h,_,_=>by simp at h
  | _::_,[],_,_,_,_,h,_=>by simp at h
  | p::P,w::vs,0,m,nd,h1,h2,hk=>by
    simp at h1 h2; subst h1; subst h2
    show bindC kindOf ((p,w)::P.zip vs) m p=_
    unfold bindC
    rw [bindC_out fun v hv=>(List.nodup_cons.mp nd).1 (List.of_mem_zip hv).1,if_neg hk]
    simp
  | p::P,w::vs,i + 1,m,nd,h1,h2,hk=>by
    show bindC kindOf ((p,w)::P.zip vs) m x=_
    unfold bindC
    exact bindC_get (i:=i) (List.nodup_cons.mp nd).2 (by simpa using h1) (by simpa using h2) hk
noncomputable def start (N:List Str) (vs:List V):St:=vs.map some++List.replicate (N.length - vs.length) none
noncomputable def cxOf (CX:CXT) (P:Program) (w:World) (K:PySem.W.Frag) (mg:Str→Option Value) (base:Heap) (N:List Str) (qual:Str) (scope:Scope) (f:Addr) (cd:Value) (A:Around) (outer:List Env) (s:Shared) (H:Hp) (E:XK):Cx where
  prog:=P
  w:=w
  K:=K
  mg:=mg
  base:=base
  A:=A.deeper (envOfC qual scope s.heap.objs.size f cd)
  N:=N
  s₀:=s
  H₀:=H
  env:=envOfC qual scope s.heap.objs.size f cd
  outer:=outer
  stack:=envOfC qual scope s.heap.objs.size f cd::outer
  ex:=[]
  calm:=true
  fn:=fun _=>true
  pn:=[]
  xe:=fun e s'=>wpAny (model P w) (A.deeper (envOfC qual scope s.heap.objs.size f cd)) (leaving (envOfC qual scope s.heap.objs.size f cd) e) (fun _ s''=>CX outer H s E e s'') (fun e' s''=>CX outer H s E e' s'') s'
theorem cell_has {sc:Scope} {n:Nat} {x:Str} (h:sc.names.lookup x=some .cell):∃ c,(cellsFrom n sc.names []).lookup x=some c:=by
  have q:=PySem.W.cellsFrom_some sc.names n [] (.inl h)
  exact Option.isSome_iff_exists.mp q
theorem inv_start {CX:CXT} {P:Program} {w:World} {K:PySem.W.Frag} {mg:Str→Option Value} {base:Heap} {N ps:List Str} {qual:Str} {scope:Scope} {f:Addr} {cd:Value} {A:Around} {outer:List Env} {s s1:Shared} {H:Hp} {E:XK} {us:List Value} {vs:List V}
    (S:FnScope N ps scope) (hd:A.handled=none) (e0:Env0 P w K mg base A outer s H) (hl:vs.length=ps.length) (r:Vals vs us)
    (x:InCallC s s.heap.objs.size (bindL (envOfC qual scope s.heap.objs.size f cd).kindOf (ps.zip us) fun _=>none) (cellsFrom (s.heap.objs.size + 1) scope.names []) (bindC (envOfC qual scope s.heap.objs.size f cd).kindOf (ps.zip us) fun _=>none) s1) :
    Inv (cxOf CX P w K mg base N qual scope f cd A outer s H E) [] (start N vs) H s1:=by
  have hpl:ps.length≤N.length:=by have:=congrArg List.length S.pre; rw [List.length_take] at this; lia
  obtain ⟨h1,tk,rfl,hk⟩:=x.done
  have noA:∀ b:Addr,b∉(cxOf CX P w K mg base N qual scope f cd A outer s H E).ex:=fun b z=>absurd (show b∈([]:List Addr) from z) (by simp)
  refine ⟨⟨e0.mod,S.kind,rfl,rfl,Nat.le_refl _,fun y z c h1 h2=>?_,fun y hy=>?_,fun y c _ h=>?_,fun _=>hd,Around.frames_deeper e0.frames,.inr ⟨rfl,rfl⟩,fun b z=>absurd z (noA b),e0.bs,e0.bsz,fun b _ _=>noA b,fun b z=>absurd z (noA b),e0.funs,e0.frf⟩,
    rfl,e0.bare,Un.kept hk,⟨_,x.toInCall.ns,fun i y v h1 h2 h3=>?_⟩,fun y c h=>⟨_,x.cell y c h⟩,e0.hok.fresh (Nat.le_refl _),fun y c h=>?_,fun p hp=>absurd (show p∈([]:List (Addr×Obj)) from hp) (by simp),e0.hok.kept hk,?_⟩
  · exact name_of_addr x.apart (PySem.mem_of_lookup h1) (PySem.mem_of_lookup h2)
  · have hy:scope.names.lookup y=some .cell∨scope.names.lookup y=some .free:=hy
    rcases hy with hy | hy
    · exact cell_has hy
    · exact absurd rfl (S.nofree _ (PySem.mem_of_lookup hy))
  · exact Nat.le_of_lt (x.above y c (PySem.mem_of_lookup h))
  · have hi:i < vs.length:=by
      unfold start at h2
      by_cases hi:i < vs.length
      · exact hi
      · rw [List.getElem?_append_right (by simpa using hi)] at h2
        rw [List.getElem?_replicate] at h2
        split at h2 <;> cases h2
    have ha:vs[i]?=some v:=by
      unfold start at h2
      rw [List.getElem?_append_left (by simpa using hi),List.getElem?_map] at h2
      cases e:vs[i]? with
      | none=>rw [e] at h2; cases h2
      | some a=>rw [e] at h2; cases h2; rfl
    obtain ⟨u,hu,rv⟩:=r.get ha
    have hp:ps[i]?=some y:=by
      rw [← S.pre,List.getElem?_take_of_lt (by lia)]; exact h1
    have ndP:ps.Nodup:=by rw [← S.pre]; exact S.nd.sublist (List.take_sublist _ _)
    refine ⟨u,rv,?_⟩
    rcases S.par y (List.mem_of_getElem? hp) with k | k
    · exact .inl ⟨k,bindL_get ndP hp hu k⟩
    · obtain ⟨c,e⟩:=cell_has (n:=s.heap.objs.size + 1) k
      refine .inr ⟨.inl k,c,e,?_⟩
      have q:=x.cell y c e
      rw [bindC_get ndP hp hu (by show scope.names.lookup y≠_; rw [k]; decide)] at q
      exact q
  · exact e0.hok.fresh (Nat.le_of_lt (x.above y c (PySem.mem_of_lookup h)))
  · unfold start
    show _=N.length
    rw [List.length_append,List.length_map,List.length_replicate]
    lia
theorem fn_of {CX:CXT} {P:Program} {w:World} {K:PySem.W.Frag} {mg:Str→Option Value} {base:Heap} {k:Nat} {f:Addr} {name qual:Str} {params:Arguments} {body:List Stmt} {scope:Scope} {dV kV doc pm cdv ct oc:Value} {an od:Option Addr}
    {osl:Array (Option Value)} {N ps:List Str} {sp:Sp} (lk:K.lookup f=some ⟨oc,od,.func (PySem.W.fnOf name qual params body scope dV kV doc pm an cdv ct),osl⟩) (hcd:PySem.W.codeIn K cdv qual=true) (S:FnScope N ps scope)
    (len:∀ vs H Q E,sp vs H Q E→vs.length=ps.length)
    (hbody:∀ (A:Around) (outer:List Env) (s:Shared) (H:Hp) (vs:List V) (Q:VK) (E:XK),Room k (A.deeper (envOfC qual scope s.heap.objs.size f cdv))→sp vs H Q E→
      ∃ t,PSs (cxOf CX P w K mg base N qual scope f cdv A outer s H E) body t∧t { nx:=fun _ H'=>Q .non H',rt:=Q } (start N vs) H) :
    FnOk P w K mg base CX (k + 1) f (PySem.W.fnOf name qual params body scope dV kV doc pm an cdv ct) ps sp:=by
  refine ⟨len,fun A outer s H args us vs Q E hr e0 hb r hsp=>?_⟩
  have hl:=len _ _ _ _ hsp
  have KX:K.In s.heap:=e0.mod.kin.keeps fun b o e=>(e0.bs b o e).1
  have lim:s.heap.NoLimit:=e0.mod.nolimit.keeps fun b o e=>(e0.bs b o e).1
  have hkind:∀ y∈ps.zip us,scope.names.lookup y.1=some .local∨(scope.names.lookup y.1=some .cell∧((cellsFrom (s.heap.objs.size + 1) scope.names []).lookup y.1).isSome=true):=fun ⟨n,v⟩ hy=>by
    rcases S.par n (List.of_mem_zip hy).1 with q | q
    · exact .inl q
    · exact .inr ⟨q,PySem.W.cellsFrom_some _ _ _ (.inl q)⟩
  refine codeAny_call_function hr.depth (KX _ _ lk) rfl S.co S.gen rfl (PySem.W.codeRec_of KX hcd) (hb _ _ _ _ ?_)
  refine wpAny_newFunctionEnv_cells S.kind hkind fun env he s1 x=>?_
  subst he
  refine ⟨lim.keeps x.toInCall.keep,codeAny_func ?_⟩
  obtain ⟨t,ht,hq⟩:=hbody A outer s H vs Q E (hr.deeper _) hsp
  have I:Inv (cxOf CX P w K mg base N qual scope f cdv A outer s H E) [] (start N vs) H s1:=inv_start S hr.hd e0 hl r x
  refine wpAny_mono (ht [] s1 (start N vs) H _ I hq) (fun fl s' hs=>?_) fun e s' hs=>hs
  have fin:∀ {σ':St} {H':Hp} {v:V} {u:Value},Inv (cxOf CX P w K mg base N qual scope f cdv A outer s H E) [] σ' H' s'→RelV v u→Q v H'→CE outer P w H s Q u s':=
    fun {σ' H' v u} J rv q=>⟨v,H',J.os,J.bare,J.base,J.hok,rv,q⟩
  cases fl with
  | ret u=>
    obtain ⟨v,σ',H',J,rv,q⟩:=hs
    exact fin J rv q
  | next=>
    obtain ⟨σ',H',J,q⟩:=hs
    exact fin (v:=V.non) (u:=Value.none) J rfl q
  | brk=>
    obtain ⟨_,_,_,q⟩:=hs
    exact False.elim q
  | cont=>
    obtain ⟨_,_,_,q⟩:=hs
    exact False.elim q
section
variable {X:Cx} {x:Str} {p pos:Pos} {e:Expr} {es:List Expr} {t:TA} {id T:String} {r:List V→Hp→VK→Prop}
noncomputable def tCB (r:List V→Hp→VK→Prop) (t:TA):TE:=fun σ H Q=>t σ H fun vs H1=>r vs H1 Q
theorem pe_callB (hc:CallR X (.builtin id) r) (hg:Gl X x) (hm:X.mg x=none) (hv:bootBuiltins x=some (.builtin id)) (ha:PA X (e::es) t) (hn:x ≠ "__name__":=by decide) (hdb:(x == ("__debug__":Str))=false:=by decide)
    (he:starEach (e::es) X.env=(false,eval e X.env)::starEach es X.env:=by rfl) (hpl:(backTo pos (starEach es X.env)).any (·.1)=false:=by rfl):PE X (.Call (.Name x p) (e::es) [] pos) (tCB r t):=by
  intro pins s σ H Q I h
  refine wpAny_Call_Name_kw (ld_blt I hg hm hv ?_ hn hdb)
  exact PyProof.Rows.callWith_builtin1 (thnG (ha pos pins s σ H _ I h) fun us s1 vs H1 I1 r1 q1=>hc pins s1 σ H1 vs us Q I1 r1 q1) he hpl
theorem pe_callTy (hc:CallR X (.type T) r) (hg:Gl X x) (hm:X.mg x=none) (hv:bootBuiltins x=some (.type T)) (ha:PA X (e::es) t) (hn:x ≠ "__name__":=by decide) (hdb:(x == ("__debug__":Str))=false:=by decide)
    (he:starEach (e::es) X.env=(false,eval e X.env)::starEach es X.env:=by rfl) (hpl:(backTo pos (starEach es X.env)).any (·.1)=false:=by rfl):PE X (.Call (.Name x p) (e::es) [] pos) (tCB r t):=by
  intro pins s σ H Q I h
  refine wpAny_Call_Name_kw (ld_blt I hg hm hv ?_ hn hdb)
  exact PyProof.Rows.callWith_type1 (thnG (ha pos pins s σ H _ I h) fun us s1 vs H1 I1 r1 q1=>hc pins s1 σ H1 vs us Q I1 r1 q1) he hpl
end
end L2
namespace HT
open PySem PyProof.Rows
theorem rcLt_int (A:Around) (s:Shared) (a:Int) (t:Tok) (c:Int) (u:Tok) (prog:Program) (w:World) (E:Value→Shared→Prop) (Q:Value→Shared→Prop) (h:Q (.bool (decide (a < c))) s) :
    wpAny (model prog w) A (richCompare .Lt (.int a t) (.int c u)) Q E s:=
  (PyProof.Rows.lt_int h:wpAny (model prog w) A (compareOp .Lt (.int a t) (.int c u)) Q E s)
section
open PySem.SeqAt
open PySem.AutoSeq1 (wpAny_loadPart')
open PySem.MeetsSeq PySem.MeetsSeq2 PySem.MeetsSeq3
end
section
variable {prog:Program} {w:World} {A:Around} {E:Value→Shared→Prop} {s:Shared}
theorem cat_tup {t b:Addr} {vs ws:List Value} {Q:Value→Shared→Prop} (ht:IsTup s.heap t vs.toArray) (hb:IsTup s.heap b ws.toArray) (hv:vs≠[])
    (h1:ws=[]→Q (.ref t) s) (h2:ws≠[]→Q (.ref s.heap.objs.size) { s with heap:=s.heap.push { cls:=.type "tuple",data:=.seq (vs++ws).toArray } })
    (hsz:vs.length + ws.length≤sizeLine):wpAny (model prog w) A (binaryOp .Add (.ref t) (.ref b)) Q E s:=by
  obtain ⟨⟨cls,dd,data,sl⟩,ho,hc,n,hd⟩:=id ht
  obtain ⟨⟨cls2,dd2,data2,sl2⟩,ho2,hc2,n2,hd2⟩:=id hb
  simp only at hc hd hc2 hd2
  subst hc hd hc2 hd2
  have e:vs.toArray++ws.toArray=(vs++ws).toArray:=by simp
  by_cases hw:ws=[]
  · exact concat_meets ⟨_,ho,rfl⟩ ⟨_,ho2,rfl⟩ noFill_tuple_add seq_tuple_add PySem.F.slot_tuple_add PySem.F.entry_tuple_add (PySem.F.args_tuple_add_2 _ _)
      (tuple_addW1 t b vs.toArray ws.toArray n n2 dd dd2 sl sl2 (by simpa using hv) (by simp [hw])) ⟨ho,ho2,h1 hw⟩
  · refine concat_meets ⟨_,ho,rfl⟩ ⟨_,ho2,rfl⟩ noFill_tuple_add seq_tuple_add PySem.F.slot_tuple_add PySem.F.entry_tuple_add (PySem.F.args_tuple_add_2 _ _)
      (tuple_addW2 t b vs.toArray ws.toArray n n2 dd dd2 sl sl2 (by simpa using hv) (by simpa using hw) (by rw [List.size_toArray,List.size_toArray]; exact hsz)) ⟨ho,ho2,?_⟩
    rw [e]
    exact h2 hw
noncomputable def sIx (n d:Nat):Option Int→Nat
  | none=>d
  | some v=>if v < 0 then (v + (n:Int)).toNat else min v.toNat n
end
end HT
namespace L2
open PySem PySem.Spec PyProof.Rows
noncomputable abbrev TO:=St→Hp→(Option Int→Hp→Prop)→Prop
noncomputable def PO (X:Cx) (e:Option Expr) (t:TO):Prop:=
  ∀ (pins:List (Addr×Obj)) (s:Shared) (σ:St) (H:Hp) (Q:Option Int→Hp→Prop),Inv X pins σ H s→t σ H Q→
    wpAny (model X.prog X.w) X.A (evalPart e X.env) (fun u s'=>∃ o H',Inv X pins σ H' s'∧IsPart u o∧Q o H') X.xe s
noncomputable def tNoPart:TO:=fun _ H Q=>Q none H
noncomputable def tPart (t:TE):TO:=fun σ H Q=>t σ H fun x H1=>∃ i,x=.int i∧Q (some i) H1
section
variable {X:Cx} {e:Expr} {te:TE} {lo hi:Option Expr} {tl th:TO} {pos p2:Pos}
theorem po_none:PO X none tNoPart:=by
  intro pins s σ H Q I h
  rw [evalPart_none]
  exact wpAny_pure ⟨none,H,I,.none,h⟩
theorem po_some (h:PE X e te):PO X (some e) (tPart te):=by
  intro pins s σ H Q I hw
  rw [evalPart_some]
  refine thnG (h pins s σ H _ I hw) fun u s1 x H1 I1 r1 q1=>?_
  obtain ⟨i,rfl,q⟩:=q1
  obtain ⟨t,rfl⟩:=r1
  exact ⟨some i,H1,I1,.int i t,q⟩
noncomputable def SlR (X:Cx) (r:V→Option Int→Option Int→Hp→VK→Prop):Prop:=
  ∀ (pins:List (Addr×Obj)) (s:Shared) (σ:St) (H:Hp) (x:V) (v vl vu:Value) (lo hi:Option Int) (sl:Addr) (Q:VK),Inv X pins σ H s→RelV x v→s.heap.IsSliceOf sl vl vu .none→IsPart vl lo→IsPart vu hi→r x lo hi H Q→
    ∃ T id,typeLookup (.type T) "__getitem__"=pure (some (.builtin id))∧s.TypeIs v T∧wpAny (model X.prog X.w) X.A (getItem v (.ref sl)) (EP X pins σ Q) X.xe s
noncomputable def tSl (r:V→Option Int→Option Int→Hp→VK→Prop) (te:TE) (tl th:TO):TE:=fun σ H Q=>te σ H fun x H1=>tl σ H1 fun l H2=>th σ H2 fun u H3=>r x l u H3 Q
theorem pe_slice {r:V→Option Int→Option Int→Hp→VK→Prop} (hr:SlR X r) (he:PE X e te) (hl:PO X lo tl) (hu:PO X hi th):PE X (.Subscript e (.Slice lo hi none p2) pos) (tSl r te tl th):=by
  intro pins s σ H Q I h
  refine Subscript_ (thnG (he pins s σ H _ I h) fun v s1 x H1 I1 r1 q1=>?_)
  refine wpAny_Slice (thnG (hl pins s1 σ H1 _ I1 q1) fun vl s2 l H2 I2 pl q2=>thnG (hu pins s2 σ H2 _ I2 q2) fun vu s3 u H3 I3 pu q3=>?_)
  rw [evalPart_none]
  refine wpAny_pure ?_
  have I4:Inv X pins σ H3 { s3 with heap:=s3.heap.push { cls:=.type "slice",data:=.fields #[vl,vu,.none] } }:=I3.kept (t':=s3.toks) fun b ob q=>Heap.get?_push_of_some _ q
  obtain ⟨T,id,hT,ht,hg⟩:=hr pins { s3 with heap:=s3.heap.push { cls:=.type "slice",data:=.fields #[vl,vu,.none] } } σ H3 x v vl vu l u s3.heap.objs.size Q I4 r1 (Heap.IsSliceOf.new ..) pl pu q3
  show wpAny (model X.prog X.w) X.A (subscriptTail e (.Slice lo hi none p2) v (.ref s3.heap.objs.size)) (EP X pins σ Q) X.xe { s3 with heap:=s3.heap.push { cls:=.type "slice",data:=.fields #[vl,vu,.none] } }
  exact tail_any (ops:=[.ref s3.heap.objs.size,v]) ht hT hg (by with_unfolding_all rfl)
noncomputable def cutV (xs:List V) (lo hi:Option Int):List V:=(xs.drop (HT.sIx xs.length 0 lo)).take (HT.sIx xs.length xs.length hi - HT.sIx xs.length 0 lo)
theorem cutV_length (xs:List V) (lo hi:Option Int):(cutV xs lo hi).length≤xs.length:=by
  unfold cutV
  rw [List.length_take,List.length_drop]
  lia
noncomputable def rCatT (K:PySem.W.Frag):R2:=fun x y H Q=>∃ a b xs ys,x=.ref a∧y=.ref b∧SqT K H a xs∧SqT K H b ys∧xs≠[]∧xs.length + ys.length≤sizeLine ∧
  (ys=[]→Q (.ref a) H)∧(ys≠[]→∀ p,H p=none→Q (.ref p) (upd H p (.tup (xs++ys))))
theorem Vals.nil_iff {xs:List V} {us:List Value} (r:Vals xs us):us=[]↔xs=[]:=by
  cases r with
  | nil=>simp
  | cons _ _=>simp
theorem op_catT:OpR X (binaryOp .Add) (rCatT X.K):=by
  intro pins s σ H x y v u Q I rx ry h
  obtain ⟨a,b,xs,ys,rfl,rfl,ha,hb,hx,hz,q1,q2⟩:=h
  cases rx
  cases ry
  obtain ⟨its,r1,p1,_⟩:=I.tuple ha
  obtain ⟨its2,r2,p2,_⟩:=I.tuple hb
  refine HT.cat_tup p1 p2 (fun z=>hx (r1.nil_iff.mp z)) (fun z=>⟨.ref a,H,I,rfl,q1 (r2.nil_iff.mp z)⟩) (fun z=>?_) (by rw [← r1.length,← r2.length]; exact hz)
  refine ⟨.ref s.heap.objs.size,_,I.laid (t':=s.toks) (o:=.tup (xs++ys)) (fun b ob q=>Heap.get?_push_of_some _ q) (Nat.le_refl _) ?_,rfl,q2 (fun w=>z (r2.nil_iff.mpr w)) _ (I.hok.fresh (Nat.le_refl _))⟩
  exact ⟨by rw [List.length_append]; exact hz,_,r1.append r2,IsTup.new _ _⟩
end
noncomputable def ixN (n:Nat) (i:Int):Option Nat:=if 0≤i then (if i < n then some i.toNat else none) else if -(n:Int)≤i then some (i + n).toNat else none
noncomputable def atI {α:Type} (xs:List α) (i:Int):Option α:=(ixN xs.length i).bind fun j=>xs[j]?
theorem ixN_seq {n:Nat} {i:Int} {j:Nat} (h:ixN n i=some j):seqIndex? i n=some j∧j < n∧-(n:Int)≤i∧i < n:=by
  unfold ixN at h
  by_cases h0:0≤i
  · rw [if_pos h0] at h
    by_cases h1:i < n
    · rw [if_pos h1] at h
      have e:i.toNat=j:=Option.some.inj h
      exact ⟨by rw [seqIndex_of h0 h1,e],by lia,by lia,h1⟩
    · rw [if_neg h1] at h; cases h
  · rw [if_neg h0] at h
    by_cases h1:-(n:Int)≤i
    · rw [if_pos h1] at h
      have e:(i + n).toNat=j:=Option.some.inj h
      exact ⟨by rw [seqIndex_neg (by lia) h1,e],by lia,h1,by lia⟩
    · rw [if_neg h1] at h; cases h
theorem atI_get {α:Type} {xs:List α} {i:Int} {v:α} (h:atI xs i=some v):∃ j,seqIndex? i xs.length=some j∧xs[j]?=some v∧j < xs.length∧-(xs.length:Int)≤i∧i < xs.length:=by
  unfold atI at h
  cases e:ixN xs.length i with
  | none=>rw [e] at h; cases h
  | some j=>
    rw [e] at h
    obtain ⟨h1,h2,h3,h4⟩:=ixN_seq e
    exact ⟨j,h1,h,h2,h3,h4⟩
noncomputable def PlainIx (b:Expr):Prop:=∀ o i,subscripted b false o i=operate [o,i] (getItem o i)
noncomputable def IxR (X:Cx) (r:R2):Prop:=
  ∀ (value slice:Expr) (pins:List (Addr×Obj)) (s:Shared) (σ:St) (H:Hp) (x y:V) (v u:Value) (Q:VK),Inv X pins σ H s→RelV x v→RelV y u→r x y H Q→
    subscripted slice false v u=operate [v,u] (getItem v u)→wpAny (model X.prog X.w) X.A (subscriptTail value slice v u) (EP X pins σ Q) X.xe s
noncomputable def MtR (X:Cx) (id:String) (r:V→List V→Hp→VK→Prop):Prop:=
  ∀ (pins:List (Addr×Obj)) (s:Shared) (σ:St) (H:Hp) (x:V) (xs:List V) (v:Value) (us:List Value) (Q:VK),Inv X pins σ H s→RelV x v→Vals xs us→r x xs H Q→
    wpAny (model X.prog X.w) X.A (call (.builtin id) (v::us)) (EP X pins σ Q) X.xe s
section
variable {X:Cx} {a b:Expr} {ta tb:TE} {pos:Pos}
theorem IxR.or {r r':R2} (h:IxR X r) (h':IxR X r'):IxR X (fun x y H Q=>r x y H Q∨r' x y H Q):=by
  intro value slice pins s σ H x y v u Q I rx ry q hs
  rcases q with q | q
  · exact h value slice pins s σ H x y v u Q I rx ry q hs
  · exact h' value slice pins s σ H x y v u Q I rx ry q hs
theorem pe_ix {r:R2} (hr:IxR X r) (ha:PE X a ta) (hb:PE X b tb) (hs:PlainIx b):PE X (.Subscript a b pos) (tOp r ta tb):=by
  intro pins s σ H Q I h
  exact Subscript_ (binT ha hb I h fun v u s2 x y H2 I2 rx ry q=>hr a b pins s2 σ H2 x y v u Q I2 rx ry q (hs _ _))
noncomputable def rIxL (K:PySem.W.Frag):R2:=fun x y H Q=>∃ p xs i v,x=.ref p∧y=.int i∧SqL K H p xs∧atI xs i=some v∧Q v H
noncomputable def rIxT (K:PySem.W.Frag):R2:=fun x y H Q=>∃ p xs i v,x=.ref p∧y=.int i∧SqT K H p xs∧atI xs i=some v∧Q v H
noncomputable def rIxS:R2:=fun x y H Q=>∃ z i c,x=.str z∧y=.int i∧z.length≤sizeLine∧atI z.cps.toList i=some c∧Q (.str ⟨#[c]⟩) H
theorem ix_list:IxR X (rIxL X.K):=by
  intro value slice pins s σ H x y v u Q I rx ry h hs
  obtain ⟨p,xs,i,z,rfl,rfl,hq,he,q⟩:=h
  cases rx
  obtain ⟨t,rfl⟩:=ry
  obtain ⟨its,r,pl,hz⟩:=I.list hq
  obtain ⟨j,h1,h2,h3,h4,h5⟩:=atI_get he
  obtain ⟨w,ew,rw'⟩:=r.get h2
  have hl:=r.length
  have hn:=line63
  have fin:EP X pins σ Q w s:=⟨z,H,I,rw',q⟩
  by_cases h0:0≤i
  · have hj:i.toNat=j:=by
      rw [seqIndex_of h0 h5] at h1
      exact Option.some.inj h1
    exact item_listR pl.isList h0 (by lia) (by rw [hj]; simpa using ew) fin hs
  · have hj:(i + (its.toArray.size:Int)).toNat=j:=by
      rw [seqIndex_neg (by lia) h4] at h1
      rw [List.size_toArray,← hl]
      exact Option.some.inj h1
    exact subscriptTail_builtinR (x:=w) pl.isList.typeIs slot_list_getitem.lookup
      (wpAny_getItem_list_neg (Q:=fun r s'=>r=w∧EP X pins σ Q r s') pl.isList (by lia) (by rw [List.size_toArray] <;> lia) (by lia) (by rw [hj]; simpa using ew) ⟨rfl,fin⟩) hs
theorem ix_tup:IxR X (rIxT X.K):=by
  intro value slice pins s σ H x y v u Q I rx ry h hs
  obtain ⟨p,xs,i,z,rfl,rfl,hq,he,q⟩:=h
  cases rx
  obtain ⟨t,rfl⟩:=ry
  obtain ⟨its,r,pl,hz⟩:=I.tuple hq
  obtain ⟨j,h1,h2,h3,h4,h5⟩:=atI_get he
  obtain ⟨w,ew,rw'⟩:=r.get h2
  have hl:=r.length
  have hn:=line63
  have fin:EP X pins σ Q w s:=⟨z,H,I,rw',q⟩
  exact subscriptTail_builtinR (x:=w) pl.typeIs slot_tuple_getitem.lookup
    (getItem_tuple (j:=j) (Q:=fun r s'=>r=w∧EP X pins σ Q r s') pl (by lia) (by lia) (by rw [List.size_toArray,← hl]; exact h1) (by simpa using ew) ⟨rfl,fin⟩) hs
theorem ix_str:IxR X rIxS:=by
  intro value slice pins s σ H x y v u Q I rx ry h hs
  obtain ⟨z,i,c,rfl,rfl,hz,he,q⟩:=h
  obtain ⟨t,rfl⟩:=rx
  obtain ⟨t',rfl⟩:=ry
  obtain ⟨j,h1,h2,h3,h4,h5⟩:=atI_get he
  have hl:z.cps.toList.length=z.length:=by simp [Str.length]
  rw [hl] at h1 h4 h5
  have hn:=line63
  exact tail_any (typeIs_str s z t) slot_str_getitem.lookup (getItem_str (c:=c) (by
    have e1:decide (i < -(2 ^ 63:Int))=false:=decide_eq_false (by lia)
    have e2:decide (i ≥ 2 ^ 63)=false:=decide_eq_false (by lia)
    rw [e1,e2,Bool.or_false]) (by rw [h1]; simpa using h2) ⟨.str ⟨#[c]⟩,H,I.tok _,⟨_,rfl⟩,q⟩) hs
noncomputable def rIx (K:PySem.W.Frag):R2:=fun x y H Q=>rIxL K x y H Q∨rIxT K x y H Q∨rIxS x y H Q
theorem ix_seq:IxR X (rIx X.K):=ix_list.or (ix_tup.or ix_str)
theorem slice_bounds (lo hi:Option Int) (n:Nat):(sliceBounds lo hi none n).1=((HT.sIx n 0 lo:Nat):Int)∧(sliceBounds lo hi none n).2.1=((HT.sIx n n hi:Nat):Int)∧(sliceBounds lo hi none n).2.2=1:=by
  refine ⟨?_,?_,rfl⟩
  · cases lo with
    | none=>simp [sliceBounds,HT.sIx]
    | some i=>
      simp only [sliceBounds,HT.sIx,Option.getD_none,show (1:Int) > 0 by decide,if_true]
      by_cases h:i < 0
      · simp only [h,if_true] <;> lia
      · simp only [h,if_false] <;> lia
  · cases hi with
    | none=>simp [sliceBounds,HT.sIx]
    | some i=>
      simp only [sliceBounds,HT.sIx,Option.getD_none,show (1:Int) > 0 by decide,if_true]
      by_cases h:i < 0
      · simp only [h,if_true] <;> lia
      · simp only [h,if_false] <;> lia
theorem slicePick_cut (its:List Value) (lo hi:Option Int):slicePick its.toArray lo hi none=((its.drop (HT.sIx its.length 0 lo)).take (HT.sIx its.length its.length hi - HT.sIx its.length 0 lo)).toArray:=by
  obtain ⟨h1,h2,h3⟩:=slice_bounds lo hi its.toArray.size
  unfold slicePick
  rw [h1,h2,h3]
  simp only [sliceRange_one,pick_run,List.size_toArray] <;> rfl
noncomputable def rSlL (K:PySem.W.Frag):V→Option Int→Option Int→Hp→VK→Prop:=fun x lo hi H Q=>∃ a xs,x=.ref a∧SqL K H a xs∧∀ p,H p=none→Q (.ref p) (upd H p (.lst (cutV xs lo hi)))
theorem sl_list:SlR X (rSlL X.K):=by
  intro pins s σ H x v vl vu lo hi sl Q I rx hs pl pu h
  obtain ⟨a,xs,rfl,hx,q⟩:=h
  cases rx
  obtain ⟨its,r,ht,hz⟩:=I.list hx
  have hlen:=r.length
  refine ⟨"list",_,slot_list_getitem.lookup,ht.isList.typeIs,?_⟩
  refine wpAny_getItem_list_slice ht.isList hs pl pu .none (by simp) ?_ (by rw [List.size_toArray] <;> lia)
  rw [slicePick_cut,← hlen]
  refine ⟨.ref s.heap.objs.size,_,I.laid (t':=s.toks) (o:=.lst (cutV xs lo hi)) (fun b ob q=>Heap.get?_push_of_some _ q) (Nat.le_refl _) ?_,rfl,q _ (I.hok.fresh (Nat.le_refl _))⟩
  exact ⟨Nat.le_trans (cutV_length xs lo hi) hz,_,0,(r.drop (HT.sIx xs.length 0 lo)).take (HT.sIx xs.length xs.length hi - HT.sIx xs.length 0 lo),Heap.get?_push_size _ rfl⟩
theorem call_len_seq:CallR X (.builtin "len") (fun xs H Q=>∃ p ys,xs=[.ref p]∧(SqL X.K H p ys∨SqT X.K H p ys)∧Q (.int ys.length) H):=by
  intro pins s σ H xs us Q I r h
  obtain ⟨p,ys,rfl,hq,q⟩:=h
  obtain ⟨u,rfl,rx⟩:=vals1 r
  cases rx
  have hn:=line63
  rcases hq with hq | hq
  · obtain ⟨its,r',pl,hz⟩:=I.list hq
    have hlen:=r'.length
    exact Calls.call_len_list pl.isList (by simp only [List.size_toArray] <;> lia) ⟨.int ys.length,H,I.tok _,⟨s.toks + 1,by rw [List.size_toArray,hlen]⟩,q⟩
  · obtain ⟨its,r',pl,hz⟩:=I.tuple hq
    have hlen:=r'.length
    exact len_tuple pl (by simp only [List.size_toArray] <;> lia) ⟨.int ys.length,H,I.tok _,⟨s.toks + 1,by rw [List.size_toArray,hlen]⟩,q⟩
theorem call_len_str:CallR X (.builtin "len") (fun xs H Q=>∃ z,xs=[.str z]∧z.length≤sizeLine∧Q (.int z.length) H):=by
  intro pins s σ H xs us Q I r h
  obtain ⟨z,rfl,hz,q⟩:=h
  obtain ⟨u,rfl,t,rfl⟩:=vals1 r
  have hn:=line63
  exact len_str (by lia) ⟨.int z.length,H,I.tok _,⟨_,rfl⟩,q⟩
theorem CallR.or {f:Value} {r r':List V→Hp→VK→Prop} (h:CallR X f r) (h':CallR X f r'):CallR X f (fun xs H Q=>r xs H Q∨r' xs H Q):=by
  intro pins s σ H xs us Q I rs q
  rcases q with q | q
  · exact h pins s σ H xs us Q I rs q
  · exact h' pins s σ H xs us Q I rs q
theorem call_list_of:CallR X (.type "list") (fun xs H Q=>∃ p ys,xs=[.ref p]∧(SqL X.K H p ys∨SqT X.K H p ys)∧∀ l,H l=none→Q (.ref l) (upd H l (.lst ys))):=by
  intro pins s σ H xs us Q I r h
  obtain ⟨p,ys,rfl,hq,q⟩:=h
  obtain ⟨u,rfl,rx⟩:=vals1 r
  cases rx
  have fin:∀ (its:List Value),Vals ys its→ys.length≤sizeLine→∀ (h':Heap) (c':Nat),(∀ b o',s.heap.get? b=some o'→h'.get? b=some o')→
      h'.get? s.heap.objs.size=some { cls:=.type "list",dict:=none,data:=.seq its.toArray c',slots:=#[] }→EP X pins σ Q (.ref s.heap.objs.size) { s with heap:=h' }:=fun its r' hz h' c' kp e=>
    ⟨.ref s.heap.objs.size,_,I.laid (t':=s.toks) kp (Nat.le_refl _) (show ObjOk X.prog X.w _ h' _ (.lst ys) from ⟨hz,its,c',r',e⟩),rfl,q _ (I.hok.fresh (Nat.le_refl _))⟩
  rcases hq with hq | hq
  · obtain ⟨its,r',pl,hz⟩:=I.list hq
    have hlen:=r'.length
    obtain ⟨o,ho,hc,n,hd⟩:=pl.isList
    exact call_list_seq p (.inl rfl) ho hc hd (fun h' c' kp e=>fin its r' hz h' c' kp e) (by simp only [List.size_toArray] <;> lia)
  · obtain ⟨its,r',pl,hz⟩:=I.tuple hq
    have hlen:=r'.length
    obtain ⟨o,ho,hc,n,hd⟩:=pl
    exact call_list_seq p (.inr rfl) ho hc hd (fun h' c' kp e=>fin its r' hz h' c' kp e) (by simp only [List.size_toArray] <;> lia)
theorem call_tuple_of:CallR X (.type "tuple") (fun xs H Q=>∃ p ys,xs=[.ref p]∧((SqL X.K H p ys∧∀ l,H l=none→Q (.ref l) (upd H l (.tup ys)))∨(SqT X.K H p ys∧Q (.ref p) H))):=by
  intro pins s σ H xs us Q I r h
  obtain ⟨p,ys,rfl,h⟩:=h
  obtain ⟨u,rfl,rx⟩:=vals1 r
  cases rx
  rcases h with ⟨hq,q⟩ | ⟨hq,q⟩
  · obtain ⟨its,r',pl,hz⟩:=I.list hq
    have hlen:=r'.length
    refine call_tuple_list pl.isList (fun h' kp=>?_) (by simp only [List.size_toArray] <;> lia)
    have I1:Inv X pins σ H { s with heap:=h' }:=I.kept (t':=s.toks) kp
    have I2:Inv X pins σ (upd H h'.objs.size (.tup ys)) { s with heap:=h'.push { cls:=.type "tuple",data:=.seq its.toArray } }:=
      I1.laid (t':=s.toks) (fun b o e=>Heap.get?_push_of_some _ e) (Nat.le_refl _) (show ObjOk X.prog X.w _ _ _ (.tup ys) from ⟨hz,its,r',IsTup.new _ _⟩)
    exact ⟨.ref h'.objs.size,_,I2,rfl,q _ (I1.hok.fresh (Nat.le_refl _))⟩
  · obtain ⟨its,r',pl,hz⟩:=I.tuple hq
    exact call_tuple_same pl ⟨.ref p,H,I,rfl,q⟩
noncomputable def tyV (K:PySem.W.Frag) (T:String) (x:V) (H:Hp):Prop:=match x with
  | .str _=>T = "str"
  | .int _=>T = "int"
  | .ref p=>(T = "list"∧∃ xs,SqL K H p xs)∨(T = "tuple"∧∃ o,K.lookup p=some o∧o.cls=.type "tuple"∧o.dict=none) ∨
      (T = "dict"∧((∃ kvs,H p=some (.dK kvs))∨∃ kvs,H p=some (.dT kvs)))∨(T = "set"∧∃ S n,H p=some (.set S n))
  | _=>False
theorem tyV_is {pins:List (Addr×Obj)} {σ:St} {H:Hp} {s:Shared} {T:String} {x:V} {v:Value} (I:Inv X pins σ H s) (r:RelV x v) (ty:tyV X.K T x H) :
    s.TypeIs v T∧∀ a,v=.ref a→∃ ob,s.heap.get? a=some ob∧ob.dict=none:=by
  cases x with
  | str z=>
    obtain ⟨t,rfl⟩:=r
    cases (show T = "str" from ty)
    exact ⟨typeIs_str s z t,fun _ e=>nomatch e⟩
  | int i=>
    obtain ⟨t,rfl⟩:=r
    cases (show T = "int" from ty)
    exact ⟨typeIs_int s i t,fun _ e=>nomatch e⟩
  | ref p=>
    cases r
    rcases ty with ⟨rfl,xs,hq⟩ | ⟨rfl,o,hk,hc,hd⟩ | ⟨rfl,hk⟩ | ⟨rfl,S,n,hk⟩
    · obtain ⟨its,_,pl,_⟩:=I.list hq
      refine ⟨pl.isList.typeIs,fun a e=>?_⟩
      cases e
      obtain ⟨o,n,e,c,hd,_⟩:=pl
      exact ⟨o,e,hd⟩
    · refine ⟨⟨o,I.kIn p o hk,hc⟩,fun a e=>?_⟩
      cases e
      exact ⟨o,I.kIn _ o hk,hd⟩
    · have z:∃ o,s.heap.get? p=some o∧o.ExactDict:=by
        rcases hk with ⟨kvs,hk⟩ | ⟨kvs,hk⟩
        · obtain ⟨_,_,_,_,o,_,_,e,ex,_⟩:=I.hok p _ hk
          exact ⟨o,e,ex⟩
        · obtain ⟨_,_,_,_,o,_,_,e,ex,_⟩:=I.hok p _ hk
          exact ⟨o,e,ex⟩
      obtain ⟨o,e,ex⟩:=z
      refine ⟨⟨o,e,ex.1⟩,fun a e2=>?_⟩
      cases e2
      exact ⟨o,e,ex.2.1⟩
    · obtain ⟨o,_,_,_,e,ex,_⟩:=I.hok p _ hk
      refine ⟨⟨o,e,ex.1⟩,fun a e2=>?_⟩
      cases e2
      exact ⟨o,e,ex.2.1⟩
  | _=>exact False.elim ty
noncomputable def tBM (K:PySem.W.Frag) (T:String) (r:V→List V→Hp→VK→Prop) (to:TE) (t:TA):TE:=fun σ H Q=>to σ H fun x H1=>tyV K T x H1∧t σ H1 fun xs H2=>r x xs H2 Q
variable {o e:Expr} {es:List Expr} {to:TE} {t:TA} {name:Str} {apos cpos:Pos} {T id:String} {r:V→List V→Hp→VK→Prop}
theorem pe_bm (pa:PlainAttrs T) (slot:Slot T name id) (hty:typeOf (.builtin id)=pure (.type "method_descriptor")) (hm:MtR X id r) (ho:PE X o to) (ha:PA X (e::es) t)
    (hbase:attributeBase o name X.env (eval o X.env)=eval o X.env:=by rfl)
    (hfew:((backTo cpos (starEach (e::es) X.env)).all (fun x=>!x.1)&&(backToKw cpos (keywordEach [] X.env)).all (fun x=>x.1.isSome)
      && decide ((e::es).length + ([]:List Keyword).length + (if ([]:List Keyword).isEmpty then 0 else 1) < 30))=true:=by rfl)
    (hline:(apos.endLine == cpos.line)=true:=by rfl) (hs:starEach (e::es) X.env=(false,eval e X.env)::starEach es X.env:=by rfl) (hplain:(backTo cpos (starEach es X.env)).any (·.1)=false:=by rfl) :
    PE X (.Call (.Attribute o name apos) (e::es) [] cpos) (tBM X.K T r to t):=by
  intro pins s σ H Q I h
  refine wpAny_Call_method_late hbase hfew hline rfl (thnG (ho pins s σ H _ I h) fun v s1 x H1 I1 r1 hh_=>?_)
  obtain ⟨ty,q1⟩:=hh_
  obtain ⟨h1,h2⟩:=tyV_is I1 r1 ty
  refine ⟨T,id,pa,slot,hty,h1,h2,?_⟩
  have hA:=ha cpos pins s1 σ H1 _ I1 q1
  rw [hs] at hA ⊢
  refine Calls.callWith_builtin (by show (false||(backTo cpos (starEach es X.env)).any (·.1))=false; rw [hplain] <;> rfl) (Calls.evalArgs_plain ?_)
  exact thnG hA fun us s2 vs H2 I2 r2 q2=>hm pins s2 σ H2 x vs v us Q I2 r1 r2 q2
end
noncomputable def MtM (X:Cx) (id:String) (r:V→List V→Hp→VK→Prop):Prop:=
  ∀ (pins:List (Addr×Obj)) (s:Shared) (σ:St) (H:Hp) (x:V) (xs:List V) (v:Value) (us:List Value) (Q:VK),Inv X pins σ H s→RelV x v→Vals xs us→r x xs H Q→
    wpAny (model X.prog X.w) X.A (call (.builtin id) (v::us)) (EP X pins σ Q) X.xe s
theorem Vals.one {x:V} {us:List Value} (h:Vals [x] us):∃ u,us=[u]∧RelV x u:=vals1 h
theorem Vals.eraseIdx:∀ {xs:List V} {us:List Value} (i:Nat),Vals xs us→Vals (xs.eraseIdx i) (us.eraseIdx i)
  | _,_,_,.nil=>.nil
  | _,_,0,.cons _ t=>t
  | _,_,i + 1,.cons r t=>.cons r (Vals.eraseIdx i t)
theorem len_erase {α:Type}:∀ (l:List α) (i:Nat),(l.eraseIdx i).length≤l.length
  | [],_=>Nat.le_refl _
  | _::_,0=>Nat.le_succ _
  | _::r,i + 1=>Nat.succ_le_succ (len_erase r i)
section
variable {X:Cx} {pins:List (Addr×Obj)} {σ:St} {H:Hp} {s:Shared} {l b:Addr} {xs ys zs:List V}
theorem Inv.lset {its its':List Value} {n:Nat} {f:Array Value→Array Value} {t':Nat} (I:Inv X pins σ H s) (hH:H l=some (.lst xs))
    (e:s.heap.get? l=some { cls:=.type "list",data:=.seq its.toArray n }) (hf:f its.toArray=its'.toArray) (hv:Vals ys its') (hz:ys.length≤sizeLine) :
    Inv X pins σ (upd H l (.lst ys)) { s with heap:=s.heap.update l (Obj.mapSeq f),toks:=t' }:=by
  have q:=PySem.IsL.update e f
  rw [hf] at q
  refine I.write (x:=l) (e:=l) (by rw [hH]; exact trivial) (.inl rfl) (fun b' u hb hu=>(Heap.get?_update_other s.heap (Obj.mapSeq f) (Ne.symm hb)).trans hu) ⟨_,q⟩ ?_
  exact ⟨hz,its',_,hv,q⟩
theorem Inv.lnew {its:List Value} {t':Nat} (I:Inv X pins σ H s) (hv:Vals ys its) (hz:ys.length≤sizeLine) :
    Inv X pins σ (upd H s.heap.objs.size (.lst ys)) { s with heap:=s.heap.push { cls:=.type "list",data:=.seq its.toArray },toks:=t' }:=
  I.laid (fun _ _ q=>Heap.get?_push_of_some _ q) (Nat.le_refl _) ⟨hz,its,0,hv,Heap.get?_push_size _ rfl⟩
theorem Inv.fresh (I:Inv X pins σ H s):H s.heap.objs.size=none:=I.hok.fresh (Nat.le_refl _)
theorem Inv.lstM (I:Inv X pins σ H s) (hH:H l=some (.lst xs)):xs.length≤sizeLine∧∃ (its:List Value) (n:Nat),Vals xs its∧xs.length=its.length∧s.heap.get? l=some { cls:=.type "list",data:=.seq its.toArray n }:=by
  obtain ⟨z,its,n,r,e⟩:=I.hok l _ hH
  exact ⟨z,its,n,r,r.length,e⟩
end
section
variable {X:Cx}
noncomputable def rAppend:V→List V→Hp→VK→Prop:=fun x vs H Q=>∃ l xs y,x=.ref l∧vs=[y]∧H l=some (.lst xs)∧xs.length < sizeLine∧Q .non (upd H l (.lst (xs++[y])))
theorem mt_append:MtM X "list.append" rAppend:=by
  intro pins s σ H x vs v us Q I rx rv h
  obtain ⟨l,xs,y,rfl,rfl,hH,hz,q⟩:=h
  cases rx
  obtain ⟨u,rfl,ru⟩:=rv.one
  obtain ⟨z,its,n,r,hl,e⟩:=I.lstM hH
  refine call_meets F.slot_list_append ⟨_,e,rfl⟩ F.entry_list_append (F.args_list_append_2 _ _) (PySem.list_append l its.toArray n u (by rw [List.size_toArray]; lia)) ⟨e,?_⟩
  refine ⟨.non,_,I.lset (its':=its++[u]) hH e (by simp) (r.append (.cons ru .nil)) ?_,rfl,q⟩
  rw [List.length_append,List.length_singleton]
  lia
noncomputable def rPopAt:V→List V→Hp→VK→Prop:=fun x vs H Q=>∃ l xs i k y,x=.ref l∧vs=[.int i]∧H l=some (.lst xs)∧-(2 ^ 63)≤i∧i < 2 ^ 63∧seqIndex? i xs.length=some k∧xs[k]?=some y∧Q y (upd H l (.lst (xs.eraseIdx k)))
theorem mt_popAt:MtM X "list.pop" rPopAt:=by
  intro pins s σ H x vs v us Q I rx rv h
  obtain ⟨l,xs,i,k,y,rfl,rfl,hH,h1,h2,hk,hy,q⟩:=h
  cases rx
  obtain ⟨u,rfl,ru⟩:=rv.one
  obtain ⟨t,rfl⟩:=ru
  obtain ⟨z,its,n,r,hl,e⟩:=I.lstM hH
  obtain ⟨w,hw,rw'⟩:=r.get hy
  refine call_meets F.slot_list_pop ⟨_,e,rfl⟩ F.entry_list_pop (F.args_list_pop_2 _ _)
    (MeetsSeq.list_pop_at l its.toArray n i t k w (fitsIndex_both h1 h2) (by rw [List.size_toArray,← hl]; exact hk) (by rw [← Array.getElem?_toList]; exact hw) (by rw [List.size_toArray]; lia)) ⟨e,?_⟩
  refine ⟨y,_,I.lset (its':=its.eraseIdx k) hH e ?_ (r.eraseIdx k) ?_,rw',q⟩
  · show its.toArray.eraseIdxIfInBounds k=(its.eraseIdx k).toArray
    rw [List.eraseIdxIfInBounds_toArray]
  · have:=len_erase xs k
    lia
end
section
variable {prog:Program} {w:World} {A:Around} {E:Value→Shared→Prop} {s:Shared}
set_option maxRecDepth 100000 in
end
section
variable {X:Cx}
end
end L2
namespace Att
open PySem PySem.W PySem.Calls PyProof.Rows
theorem ints_of_wellAll {P:Params} {h:Heap}:∀ (ns:List Int) (vs:List Value),WellAll P h vs (ns.map WData.int)→IntsAre vs ns:=by
  intro ns
  induction ns with
  | nil=>
    intro vs w
    rw [List.map_nil] at w
    cases w
    exact .nil
  | cons n ns ih=>
    intro vs w
    rw [List.map_cons] at w
    cases w with
    | cons a b=>
      cases a
      exact .cons _ _ (ih _ b)
theorem script_of {l:OpenLaw} {n:Nat} (hn:l.most=some n) {P:Params} {h:Heap} {args:List WData} {vals:List Value}
    (hpre:l.row.toRowW.claim.pre args=true) (hwl:WellAll P h vals args) :
    ∃ a vs ns,vals=[Value.ref a]∧args=[WData.list (ns.map WData.int)]∧h.get? a=some { cls:=.type "list",data:=.seq vs.toArray }∧IntsAre vs ns∧ns.length≤n:=by
  have hsh:WShape.hasAll [] args [.list .int]=true:=(pre_splitW hpre).1
  have hc:l.pre.holds [] { args:=args }=true:=(pre_splitW hpre).2
  obtain ⟨d,r,rfl,h1,h2⟩:=hasAllW_cons hsh
  obtain rfl:=hasAllW_nil h2
  obtain ⟨xs,rfl,h3⟩:=hasW_list h1
  obtain ⟨ns,rfl⟩:=items_int h3
  have hlen:ns.length≤n:=by
    unfold OpenLaw.pre at hc
    have h4:(WTm.not (.lt (.lit (.int (n:Int))) (.len (.arg 0)))).holds [] { args:=[.list (ns.map .int)] }=true:=by
      have h4:=(holds_andW hc).1
      rw [hn] at h4
      exact h4
    have h5:=condW_of h4 (w_not (w_lt w_lit (w_len_list (w_arg rfl))))
    rw [List.length_map] at h5
    refine Nat.le_of_not_lt fun q=>?_
    have q':(n:Int) < ((ns.length:Nat):Int):=by lia
    first
      | (rw [decide_eq_true q'] at h5; exact absurd h5 (by decide))
      | (simp at h5; lia)
  cases hwl with
  | cons w1 w2=>
    cases w2
    cases w1 with
    | list ho hall=>exact ⟨_,_,ns,rfl,rfl,ho,ints_of_wellAll ns _ hall,hlen⟩
theorem post_true (l:OpenLaw) (args:List WData):l.row.toRowW.claim.post args (.bool true) args=true:=
  postW_of (r:=l.row.toRowW) (X:=(true == true))
    (show WShape.has [] (.bool true) .bool=true by first | rfl | decide | simp [WShape.has,WShape.arms,WShape.armsAll])
    (show (WTm.eq .res (.lit (.bool true))).value [] { args:=args,res:=some (.bool true),after:=args }=some (.bool (true == true)) from w_eq_bool (w_res rfl) w_lit) rfl
theorem attach_call {l:OpenLaw} {n:Nat} {q:Program} {loose:List Str} {XP:(Str→Option Value)→Heap→Prop} {YP:World→Heap→Prop} {d:DefRec}
    (hn:l.most=some n) (hdf:d.params.defaults=[])
    (call:∀ (w:World) (s₀ s₁:Shared) (mg mb:Str→Option Value) (fa:Addr) (o:Obj) (pm cd doc:Value) (a:Addr) (vs:List Value) (ns:List Int),
      Ground q loose [] XP w s₀ mg mb s₁.heap→YP w s₁.heap→
      s₁.heap.get? fa=some o→o.data=.func (docDef d.name d.params d.body d.scope pm cd doc)→s₁.heap.CodeRec cd d.name→mg d.name=some (.ref fa)→
      s₁.heap.get? a=some { cls:=.type "list",data:=.seq vs.toArray }→IntsAre vs ns→ns.length≤n→s₁.gens=#[]→
      codeAny (model l.prog w) callerA (.call (.ref fa) ⟨[.ref a],[]⟩) (fun r s'=>r=.ok (.ret (.bool true))∧OldK s₁.heap s'.heap∧s'.os=s₁.os∧AllBare s'.gens) s₁) :
    WalkO q loose XP YP l.row.toRowW d [] (fun f vs=>PySem.call f vs):=by
  intro w s₀ s₁ mg mb G Y fa o pm cd doc dV kV ho hd hcd hD hmg hg args vals as hpre hlay hrd hwl hlo
  obtain rfl:dV=.none:=Dflts.none hD hdf
  obtain rfl:kV=.none:=Dflts.noKw hD
  obtain ⟨a,vs,ns,rfl,rfl,hobj,hints,hlen⟩:=script_of hn hpre hwl
  refine enter_call (codeAny_mono (call w s₀ s₁ mg mb fa o pm cd doc a vs ns G Y ho (fd_plain hd) hcd hmg hobj hints hlen hg) fun r s' hq=>?_)
  obtain ⟨rfl,h2,h3,h4⟩:=hq
  exact ⟨.inl ⟨.bool true,.bool true,[],rfl,fun _=>rfl,.bool true,post_true l _,fun _=>⟨List.Pairwise.nil,fun _ hm=>(nomatch hm)⟩⟩,h2,h3,h4⟩
section
variable {prog:Program} {w:World} {A:Around} {E:Value→Shared→Prop} {s:Shared} {K:Frag}
end
end Att
namespace L2
open PySem PySem.Spec PyProof.Rows
theorem vals_ints:∀ {vs:List Value} {ns:List Int},IntsAre vs ns→Vals (ns.map V.int) vs
  | _,_,.nil=>.nil
  | _,_,.cons n t h=>.cons ⟨t,rfl⟩ (vals_ints h)
noncomputable def Only (H:Hp):Prop:=∀ b,H b=none∨∃ o xs,H b=some (.frz o (.lst xs))
theorem law_call {P:Program} {w:World} {K:PySem.W.Frag} {mg mb:Str→Option Value} {CX:CXT} {k:Nat} {fa a:Addr} {fd:FuncData} {x:Str} {sp:Sp} {s₁:Shared} {vs:List Value} {ns:List Int}
    (KX:K.In s₁.heap) (hns:s₁.heap.Ns mainGlobals mg) (hb:s₁.heap.Ns builtinsNs mb) (hbb:∀ x:Str,x ≠ "__name__"→mb x=bootBuiltins x) (hlim:s₁.heap.NoLimit) (hg:s₁.gens=#[])
    (ha:s₁.heap.get? a=some { cls:=.type "list",data:=.seq vs.toArray }) (hi:IntsAre vs ns) (hl:ns.length≤sizeLine) (hr:Room k callerA)
    (F:∀ base:Heap,K.In base→base.Ns mainGlobals mg→FnOk P w K mg base CX k fa fd [x] sp) (hbind:∀ (s:Shared) (u:Value),BindsTo s fd ⟨[u],[]⟩ [(x,u)])
    (hsp:∀ H:Hp,Only H→SqL K H a (ns.map V.int)→sp [.ref a] H (fun v _=>v=.bl true) fun _ _ _=>False)
    (hCX:∀ H e s',CX [] H s₁ (fun _ _ _=>False) e s'→False) :
    codeAny (model P w) callerA (.call (.ref fa) ⟨[.ref a],[]⟩) (fun r s'=>r=.ok (.ret (.bool true))∧OldK s₁.heap s'.heap∧s'.os=s₁.os∧AllBare s'.gens) s₁:=by
  have rv:=vals_ints hi
  have lenV:=hi.length
  -- from an abstract heap in which nothing but the script may be tracked
  have core:∀ H:Hp,Only H→SqL K H a (ns.map V.int)→HOk P w H s₁.heap→(∀ b,H b≠none→b=a)→(H a≠none→K.lookup a=none)→
      codeAny (model P w) callerA (.call (.ref fa) ⟨[.ref a],[]⟩) (fun r s'=>r=.ok (.ret (.bool true))∧OldK s₁.heap s'.heap∧s'.os=s₁.os∧AllBare s'.gens) s₁:=by
    intro H hO hS hok hA hK
    have base_of:∀ {b:Addr} {o:Obj},s₁.heap.get? b=some o→H b=none→(hidT s₁.heap H).get? b=some o:=fun e n=>hidT_get e n
    have noA:∀ {b:Addr} {o:Obj} {es:Array DictEntry} {ep:Nat},s₁.heap.get? b=some o→o.data=.dict es ep→H b=none:=fun {b o es ep} e d=>by
      cases q:H b with
      | none=>rfl
      | some u=>
        have e':b=a:=hA b (by rw [q]; simp)
        subst e'
        rw [ha] at e; cases e
        have d':Data.seq vs.toArray _=Data.dict es ep:=d
        cases d'
    have nsK:∀ {b:Addr} {m:Str→Option Value},s₁.heap.Ns b m→(hidT s₁.heap H).Ns b m:=fun {b m} ⟨o,es,ep,e,d,r⟩=>⟨o,es,ep,base_of e (noA e d),d,r⟩
    have hKb:K.In (hidT s₁.heap H):=fun b o e=>base_of (KX b o e) (by
      cases q:H b with
      | none=>rfl
      | some u=>
        have e':b=a:=hA b (by rw [q]; simp)
        subst e'
        rw [hK (by rw [q]; simp)] at e; cases e)
    have hM:Mod K mg (hidT s₁.heap H):=⟨hKb,nsK hns,⟨mb,nsK hb,hbb⟩,let ⟨mc,h1,h2⟩:=hlim; ⟨mc,nsK h1,h2⟩⟩
    have e0:Env0 P w K mg (hidT s₁.heap H) callerA [] s₁ H:=⟨rfl,hM,fun b o e=>of_hidT e,Nat.le_of_eq (hidT_size _ _),trivial,fun b hb=>absurd (show b∈([]:List Addr) from hb) (by simp),hok,.of_eq hg⟩
    refine codeAny_mono ((F _ hKb (nsK hns)).run callerA [] s₁ H ⟨[.ref a],[]⟩ [.ref a] [.ref a] _ _ hr e0 (hbind s₁ (.ref a)) (.cons rfl .nil) (hsp H hO hS)) fun r s' h=>?_
    cases r with
    | error e=>exact (hCX H e s' h).elim
    | ok fl=>
      cases fl with
      | next=>exact False.elim h
      | brk=>exact False.elim h
      | cont=>exact False.elim h
      | ret u=>
        obtain ⟨v,H',os,bare,un,hok',r',q⟩:=h
        have q':v=.bl true:=q
        subst q'
        obtain rfl:u=Value.bool true:=r'
        refine ⟨rfl,OldK.of_keep fun b o e=>?_,os,bare⟩
        cases q:H b with
        | none=>exact un.keep b o e q (by intro z; exact absurd (show b∈([]:List Addr) from z) (by simp)) (by simp)
        | some u=>
          rcases hO b with z | ⟨ob,xs,z⟩
          · rw [q] at z; cases z
          · have z2:=un.frzs b ob _ z
            obtain ⟨e1,_⟩:=hok b _ z
            obtain ⟨e2,_⟩:=hok' b _ z2
            rw [e] at e1; cases e1
            exact e2
  cases hk:K.lookup a with
  | some o=>
    -- the script is one of the module's own objects
    have e:=KX a o hk
    rw [ha] at e
    cases e
    refine core (fun _=>none) (fun _=>.inl rfl) (.inr ⟨_,vs.toArray,_,hk,rfl,rfl,rfl,by rw [List.size_toArray,lenV]; exact hl,by simpa using rv⟩) (fun b u z=>by have z':(none:Option HO)=some u:=z; cases z') (fun b z=>absurd rfl z) fun z=>absurd rfl z
  | none=>
    refine core (fun b=>if b=a then some (.frz { cls:=.type "list",data:=.seq vs.toArray } (.lst (ns.map V.int))) else none) (fun b=>?_) (.inl (.inr ⟨{ cls:=.type "list",data:=.seq vs.toArray },if_pos rfl⟩)) (fun b u z=>?_) (fun b z=>?_) fun _=>hk
    · by_cases hb:b=a
      · exact .inr ⟨_,_,if_pos hb⟩
      · exact .inl (if_neg hb)
    · by_cases hb:b=a
      · have z':=(if_pos hb).symm.trans z
        cases z'
        subst hb
        exact ⟨ha,by rw [List.length_map]; exact hl,vs,_,rv,ha⟩
      · have z':=(if_neg hb).symm.trans z
        cases z'
    · by_cases hb:b=a
      · exact hb
      · exact absurd (if_neg hb) z
theorem walk_of {l:PySem.W.OpenLaw} {n k:Nat} {q:Program} {loose:List Str} {XP:(Str→Option Value)→Heap→Prop} {YP:World→Heap→Prop} {d:DefRec} {K:Params→PySem.W.Frag} {CX:World→CXT} {sp:World→Sp} {x:Str}
    (hn:l.most=some n) (hn2:n≤sizeLine) (hdf:d.params.defaults=[]) (hr:Room k callerA)
    (hY:∀ (w:World) (h:Heap),YP w h→(K w.params).In h)
    (F:∀ (w:World) (mg:Str→Option Value) (fa:Addr) (h:Heap),(K w.params).In h→h.Ns mainGlobals mg→mg d.name=some (.ref fa)→
      ∃ fd:FuncData,(∀ (s:Shared) (u:Value),BindsTo s fd ⟨[u],[]⟩ [(x,u)]) ∧
        ∀ base:Heap,(K w.params).In base→base.Ns mainGlobals mg→FnOk l.prog w (K w.params) mg base (CX w) k fa fd [x] (sp w))
    (hsp:∀ (w:World) (H:Hp) (a:Addr) (ns:List Int),ns.length≤n→Only H→SqL (K w.params) H a (ns.map V.int)→sp w [.ref a] H (fun v _=>v=.bl true) fun _ _ _=>False)
    (hCX:∀ (w:World) (H:Hp) (s:Shared) (e:Value) (s':Shared),CX w [] H s (fun _ _ _=>False) e s'→False) :
    PySem.W.WalkO q loose XP YP l.row.toRowW d [] (fun f vs=>PySem.call f vs):=by
  refine Att.attach_call hn hdf fun w s₀ s₁ mg mb fa o pm cd doc a vs ns G Y ho hd hcd hmg hobj hints hlen hg=>?_
  have KX:=hY w _ Y
  obtain ⟨fd,hb,hF⟩:=F w mg fa _ KX G.T.g hmg
  exact law_call KX G.T.g G.T.b G.T.builtins G.T.nolimit hg hobj hints (Nat.le_trans hlen hn2) hr hF hb (fun H hO hS=>hsp w H a ns hlen hO hS) fun H e s'=>hCX w H s₁ e s'
theorem walk_ofK {l:PySem.W.OpenLaw} {n k:Nat} {q:Program} {loose:List Str} {XP:(Str→Option Value)→Heap→Prop} {YP:World→Heap→Prop} {d:DefRec} {K:Params→PySem.W.Frag} {CX:CXT} {sp:PySem.W.Frag→Sp} {x:Str}
    (hn:l.most=some n) (hn2:n≤sizeLine) (hdf:d.params.defaults=[]) (hr:Room k callerA)
    (hY:∀ (w:World) (h:Heap),YP w h→(K w.params).In h)
    (F:∀ (w:World) (mg:Str→Option Value) (fa:Addr) (h:Heap),(K w.params).In h→h.Ns mainGlobals mg→mg d.name=some (.ref fa)→
      ∃ fd:FuncData,(∀ (s:Shared) (u:Value),BindsTo s fd ⟨[u],[]⟩ [(x,u)]) ∧
        ∀ base:Heap,(K w.params).In base→base.Ns mainGlobals mg→FnOk l.prog w (K w.params) mg base CX k fa fd [x] (sp (K w.params)))
    (hsp:∀ (K:PySem.W.Frag) (H:Hp) (a:Addr) (ns:List Int),ns.length≤n→Only H→SqL K H a (ns.map V.int)→sp K [.ref a] H (fun v _=>v=.bl true) fun _ _ _=>False)
    (hCX:∀ (H:Hp) (s:Shared) (e:Value) (s':Shared),CX [] H s (fun _ _ _=>False) e s'→False) :
    PySem.W.WalkO q loose XP YP l.row.toRowW d [] (fun f vs=>PySem.call f vs):=
  walk_of (K:=K) (CX:=fun _=>CX) (sp:=fun w=>sp (K w.params)) hn hn2 hdf hr hY F (fun w H a ns h1 h2 h3=>hsp (K w.params) H a ns h1 h2 h3) fun _ H s e s'=>hCX H s e s'
noncomputable def inClass (s:Stmt) (j:Nat):Stmt:=match s with
  | .ClassDef _ _ _ body _ _ _ _ _ _ _=>body.getD j (.Pass ⟨0,0,0,0⟩)
  | _=>.Pass ⟨0,0,0,0⟩
noncomputable def defArgs (s:Stmt):Arguments:=match s with
  | .FunctionDef _ a _ _ _ _ _ _ _ _=>a
  | _=>{ posonlyargs:=[],args:=[],vararg:=none,kwonlyargs:=[],kw_defaults:=[],kwarg:=none,defaults:=[] }
noncomputable def defBody (s:Stmt):List Stmt:=match s with
  | .FunctionDef _ _ b _ _ _ _ _ _ _=>b
  | _=>[]
noncomputable def defScope (s:Stmt):Scope:=match s with
  | .FunctionDef _ _ _ _ _ _ sc _ _ _=>sc
  | _=>{ kind:=.function,names:=[],isGenerator:=false,isCoroutine:=false }
noncomputable abbrev CX0:CXT:=fun _ _ _ _ _ _=>False
noncomputable abbrev E0:XK:=fun _ _ _=>False
theorem pass0 {X:Cx}:Passes CX0 X E0:=fun _ _ _ _ _ _ _ h=>h.elim
structure Fun (K:PySem.W.Frag) (x qual:Str) (st:Stmt) (f:Addr) (fd:FuncData):Prop where
  ex:∃ (oc:Value) (od:Option Addr) (kV doc pm:Value) (an:Option Addr) (cdv ct:Value) (osl:Array (Option Value)),
    fd=PySem.W.fnOf x qual (defArgs st) (defBody st) (defScope st) .none kV doc pm an cdv ct∧K.lookup f=some ⟨oc,od,.func fd,osl⟩∧PySem.W.codeIn K cdv qual=true
  kp:PySem.W.keepIn K (.ref f)=true
section
variable {P:Program} {w:World} {K:PySem.W.Frag} {mg:Str→Option Value} {base:Heap}
theorem Fun.ok {x qual:Str} {st:Stmt} {f:Addr} {fd:FuncData} {N ps:List Str} {k:Nat} {sp:Sp} (F:Fun K x qual st f fd) (S:FnScope N ps (defScope st)) (len:∀ vs H Q E,sp vs H Q E→vs.length=ps.length)
    (hbody:∀ (cdv:Value) (A:Around) (outer:List Env) (s:Shared) (H:Hp) (vs:List V) (Q:VK) (E:XK),Room k (A.deeper (envOfC qual (defScope st) s.heap.objs.size f cdv))→sp vs H Q E→
      ∃ t,PSs (cxOf CX0 P w K mg base N qual (defScope st) f cdv A outer s H E).nox (defBody st) t∧t { nx:=fun _ H'=>Q .non H',rt:=Q } (start N vs) H):FnOk P w K mg base CX0 (k + 1) f fd ps sp:=by
  obtain ⟨oc,od,kV,doc,pm,an,cdv,ct,osl,rfl,lk,hcd⟩:=F.ex
  refine fn_of lk hcd S len fun A outer s H vs Q E hr hsp=>?_
  obtain ⟨t,h,q⟩:=hbody cdv A outer s H vs Q E hr hsp
  exact ⟨t,h.nox,q⟩
theorem Fun.binds {x qual:Str} {st:Stmt} {f:Addr} {fd:FuncData} {ps:List Str} (F:Fun K x qual st f fd)
    (h:∀ (kV doc pm:Value) (an:Option Addr) (cdv ct:Value) (us:List Value),us.length=ps.length→bindArgs (PySem.W.fnOf x qual (defArgs st) (defBody st) (defScope st) .none kV doc pm an cdv ct) ⟨us,[]⟩=pure (ps.zip us)):Binds K fd ps []:=by
  obtain ⟨oc,od,kV,doc,pm,an,cdv,ct,osl,rfl,lk,hcd⟩:=F.ex
  exact .all (h kV doc pm an cdv ct)
theorem fun_mk {x qual:Str} {st:Stmt} {f:Addr} {oc:Value} {od an:Option Addr} {osl:Array (Option Value)} {kV doc pm cdv ct:Value} (l:K.lookup f=some ⟨oc,od,.func (PySem.W.fnOf x qual (defArgs st) (defBody st) (defScope st) .none kV doc pm an cdv ct),osl⟩)
    (c:PySem.W.codeIn K cdv qual=true) (k:PySem.W.keepIn K (.ref f)=true):Fun K x qual st f (PySem.W.fnOf x qual (defArgs st) (defBody st) (defScope st) .none kV doc pm an cdv ct):=⟨⟨oc,od,kV,doc,pm,an,cdv,ct,osl,rfl,l,c⟩,k⟩
end
section
variable {X:Cx}
theorem pv (i:Nat) {x:Str} {pos:Pos} (hN:X.N[i]?=some x:=by rfl) (hv:Vis X.env.scope x:=by first | exact Or.inl rfl | exact Or.inr (Or.inl rfl) | exact Or.inr (Or.inr rfl)) (hd:(x == ("__debug__":Str))=false:=by decide)
    (hcd:(x == ("__classdict__":Str))=false:=by decide):PE X (.Name x pos) (tVar i):=pe_var hN hv hd hcd
end
noncomputable def Same (H H':Hp):Prop:=∀ b o,H b=some o→H' b=some o
theorem Same.refl (H:Hp):Same H H:=fun _ _ h=>h
theorem Same.trans {H H1 H2:Hp} (a:Same H H1) (b:Same H1 H2):Same H H2:=fun c o h=>b c o (a c o h)
theorem Same.free {H H':Hp} (e:Same H H') {l:Addr} (h:H' l=Option.none):H l=Option.none:=by
  cases q:H l with
  | none=>rfl
  | some o=>
    rw [e l o q] at h
    cases h
theorem Same.seq {K:PySem.W.Frag} {H H':Hp} {a:Addr} {xs:List V} (e:Same H H') (h:SqL K H a xs):SqL K H' a xs:=by
  rcases h with (h | ⟨o,h⟩) | h
  · exact .inl (.inl (e _ _ h))
  · exact .inl (.inr ⟨o,e _ _ h⟩)
  · exact .inr h
section
variable {κ:Type} [DecidableEq κ]
noncomputable def valV (kvs:List (κ×V)) (k:κ):Option V:=(kvs.find? fun kv=>decide (kv.1=k)).map (·.2)
noncomputable def putK (kvs:List (κ×V)) (k:κ) (v:V):List (κ×V):=
  if (kvs.any fun kv=>decide (kv.1=k))=true then kvs.map (fun kv=>if kv.1=k then (kv.1,v) else kv) else kvs++[(k,v)]
theorem valV_pos {p:κ×V} {r:List (κ×V)} {k:κ} (e:p.1=k):valV (p::r) k=some p.2:=by simp [valV,List.find?_cons,e]
theorem valV_neg {p:κ×V} {r:List (κ×V)} {k:κ} (e:¬ p.1=k):valV (p::r) k=valV r k:=by simp [valV,List.find?_cons,e]
theorem valV_any (k:κ):∀ kvs:List (κ×V),(kvs.any fun kv=>decide (kv.1=k))=(valV kvs k).isSome
  | []=>rfl
  | p::r=>by
    rw [List.any_cons]
    by_cases e:p.1=k
    · simp only [valV_pos e,decide_eq_true e,Bool.true_or,Option.isSome_some]
    · rw [valV_neg e,decide_eq_false e,Bool.false_or]; exact valV_any k r
theorem length_putK (kvs:List (κ×V)) (k:κ) (v:V):(putK kvs k v).length≤kvs.length + 1:=by
  unfold putK
  split
  · rw [List.length_map]; lia
  · rw [List.length_append,List.length_cons,List.length_nil]; lia
theorem RelO.isSome_eq {o:Option V} {u:Option Value} (r:RelO o u):o.isSome=u.isSome:=by
  cases o with
  | none=>cases u with
    | none=>rfl
    | some _=>exact (show False from r).elim
  | some _=>cases u with
    | none=>exact (show False from r).elim
    | some _=>rfl
theorem RelO.getD {o:Option V} {u:Option Value} {d:V} {d':Value} (r:RelO o u) (rd:RelV d d'):RelV (o.getD d) (u.getD d'):=by
  cases o with
  | none=>cases u with
    | none=>exact rd
    | some _=>exact (show False from r).elim
  | some _=>cases u with
    | none=>exact (show False from r).elim
    | some _=>exact r
theorem KV.val {kvs:List (κ×V)} {vs:List (κ×Value)} (r:KV kvs vs) (k:κ):RelO (valV kvs k) (valueAt vs k):=by
  unfold KV at r
  induction r with
  | nil=>exact True.intro
  | @cons p q ps qs h t ih=>
    obtain ⟨h1,h2⟩:=h
    by_cases e:p.1=k
    · have e':q.1=k:=h1.symm.trans e
      have b:valueAt (q::qs) k=some q.2:=by simp [valueAt,List.find?_cons,e']
      rw [valV_pos e,b]; exact h2
    · have e':¬ q.1=k:=fun z=>e (h1.trans z)
      have b:valueAt (q::qs) k=valueAt qs k:=by simp [valueAt,List.find?_cons,e']
      rw [valV_neg e,b]; exact ih
theorem KV.any {kvs:List (κ×V)} {vs:List (κ×Value)} (r:KV kvs vs) (k:κ):(kvs.any fun kv=>decide (kv.1=k))=vs.any fun kv=>decide (kv.1=k):=by
  unfold KV at r
  induction r with
  | nil=>rfl
  | cons h t ih=>rw [List.any_cons,List.any_cons,ih,h.1]
theorem KV.repl {kvs:List (κ×V)} {vs:List (κ×Value)} (r:KV kvs vs) (k:κ) {y:V} {u:Value} (ry:RelV y u) :
    KV (kvs.map fun kv=>if kv.1=k then (kv.1,y) else kv) (vs.map fun kv=>if kv.1=k then (kv.1,u) else kv):=by
  unfold KV at r ⊢
  induction r with
  | nil=>exact .nil
  | @cons p q ps qs h t ih=>
    rw [List.map_cons,List.map_cons]
    refine .cons ?_ ih
    obtain ⟨h1,h2⟩:=h
    by_cases e:p.1=k
    · rw [if_pos e,if_pos (h1.symm.trans e)]; exact ⟨h1,ry⟩
    · rw [if_neg e,if_neg (fun z=>e (h1.trans z))]; exact ⟨h1,h2⟩
theorem KV.put {kvs:List (κ×V)} {vs:List (κ×Value)} (r:KV kvs vs) (k:κ) {y:V} {u:Value} (ry:RelV y u):KV (putK kvs k y) (stored vs k u):=by
  unfold putK stored
  rw [r.any k]
  by_cases e:(vs.any fun kv=>decide (kv.1=k))=true
  · rw [if_pos e,if_pos e]; exact r.repl k ry
  · rw [if_neg e,if_neg e]; exact Paired.snoc r ⟨rfl,ry⟩
theorem KV.length {kvs:List (κ×V)} {vs:List (κ×Value)} (r:KV kvs vs):kvs.length=vs.length:=Paired.length r
end
theorem kV_is {P:Program} {w:World} {k:Key} {u:Value} (r:RelV (kV k) u):(mixKind P w).is k u=true:=by
  cases k with
  | inl i=>obtain ⟨t,e⟩:=(show ∃ t,u=Value.int i t from r); subst e; exact mixKind_int P w i t
  | inr x=>obtain ⟨t,e⟩:=(show ∃ t,u=Value.str x t from r); subst e; exact mixKind_str P w x t
theorem items_are {P:Program} {w:World}:∀ {ks:List Key} {us:List Value},Vals (ks.map kV) us→ItemsAre (mixKind P w) ks us
  | [],_,r=>by rw [List.map_nil] at r; cases r; exact .nil
  | k::ks,_,r=>by
    rw [List.map_cons] at r
    cases r with
    | cons h t=>exact .cons (kV_is h) (items_are t)
noncomputable abbrev KT (H:Hp):List (List Key×V)→List (List Key×Addr×Value)→Prop:=Paired fun p q=>p.1=q.1∧H q.2.1=some (.tup (p.1.map kV))∧RelV p.2 q.2.2
theorem KT.val {H:Hp} {kvs:List (List Key×V)} {xs:List (List Key×Addr×Value)} (r:KT H kvs xs) (k:List Key):RelO (valV kvs k) ((atKey xs k).map (·.2)):=by
  induction r with
  | nil=>exact True.intro
  | @cons p q ps qs h t ih=>
    obtain ⟨h1,_,h2⟩:=h
    by_cases e:p.1=k
    · have e':q.1=k:=h1.symm.trans e
      have b:atKey (q::qs) k=some q.2:=by simp [atKey,List.find?_cons,e']
      rw [valV_pos e,b]; exact h2
    · have e':¬ q.1=k:=fun z=>e (h1.trans z)
      have b:atKey (q::qs) k=atKey qs k:=by simp [atKey,List.find?_cons,e']
      rw [valV_neg e,b]; exact ih
theorem KT.repl {H:Hp} {kvs:List (List Key×V)} {xs:List (List Key×Addr×Value)} (r:KT H kvs xs) (k:List Key) {y:V} {u:Value} (ry:RelV y u) :
    KT H (kvs.map fun kv=>if kv.1=k then (kv.1,y) else kv) (xs.map (putAt k u)):=by
  induction r with
  | nil=>exact .nil
  | @cons p q ps qs h t ih=>
    rw [List.map_cons,List.map_cons]
    refine .cons ?_ ih
    obtain ⟨h1,h2,h3⟩:=h
    unfold putAt
    by_cases e:p.1=k
    · rw [if_pos e,if_pos (h1.symm.trans e)]; exact ⟨h1,h2,ry⟩
    · rw [if_neg e,if_neg (fun z=>e (h1.trans z))]; exact ⟨h1,h2,h3⟩
theorem KT.put {H:Hp} {kvs:List (List Key×V)} {xs:List (List Key×Addr×Value)} (r:KT H kvs xs) (k:List Key) {b:Addr} {y:V} {u:Value} (hb:H b=some (.tup (k.map kV))) (ry:RelV y u) :
    KT H (putK kvs k y) (storedH xs k b u):=by
  have e:(kvs.any fun kv=>decide (kv.1=k))=(atKey xs k).isSome:=by
    rw [valV_any,(r.val k).isSome_eq,Option.isSome_map]
  unfold putK storedH
  rw [e]
  by_cases q:(atKey xs k).isSome=true
  · rw [if_pos q,if_pos q]; exact r.repl k ry
  · rw [if_neg q,if_neg q]; exact Paired.snoc r ⟨rfl,hb,ry⟩
theorem KT.keeps {H H':Hp} {kvs:List (List Key×V)} {xs:List (List Key×Addr×Value)} (r:KT H kvs xs) (ht:∀ b ys,H b=some (.tup ys)→H' b=some (.tup ys)):KT H' kvs xs:=
  Paired.mapP r fun _ _ z=>⟨z.1,ht _ _ z.2.1,z.2.2⟩
section
variable {P:Program} {w:World} {H:Hp} {h:Heap} {a:Addr}
theorem rd_of {u:HO} (ok:HOk P w H h) (e:Rd H a u):ObjOk P w H h a u:=e.ok ok
theorem dk_rd {kvs:List (Key×V)} (ok:HOk P w H h) (e:Rd H a (.dK kvs)):kvs.length≤sizeLine∧(a == sysModules)=false∧∃ vs,KV kvs vs∧h.DictOf (mixKind P w) a vs:=
  show ObjOk P w H h a (.dK kvs) from rd_of ok e
theorem dk_of {kvs:List (Key×V)} (ok:HOk P w H h) (e:H a=some (.dK kvs)):kvs.length≤sizeLine∧(a == sysModules)=false∧∃ vs,KV kvs vs∧h.DictOf (mixKind P w) a vs:=dk_rd ok (.inl e)
theorem key_of {ks:List Key} (ok:HOk P w H h) (e:H a=some (.tup (ks.map kV))):(tupleKind (mixKind P w)).is h ks a:=by
  obtain ⟨_,its,r,o,h1,h2,n,h3⟩:=(show ObjOk P w H h a (.tup (ks.map kV)) from ok a _ e)
  exact ⟨o,its.toArray,n,h1,h2,h3,by simpa using items_are r⟩
theorem dt_rd {kvs:List (List Key×V)} (ok:HOk P w H h) (e:Rd H a (.dT kvs)):kvs.length≤sizeLine∧(a == sysModules)=false ∧
    ∃ xs,KT H kvs xs∧h.DictOfH (tupleKind (mixKind P w)) a xs:=by
  obtain ⟨z,y,xs,r,o,es,ep,h1,h2,h3,h4,h5⟩:=(show ObjOk P w H h a (.dT kvs) from rd_of ok e)
  refine ⟨z,y,xs,r,o,es,ep,h1,h2,h3,h4,fun x hx=>?_,h5⟩
  have all:∀ {l:List (List Key×V)} {m:List (List Key×Addr×Value)},KT H l m→∀ x∈m,(tupleKind (mixKind P w)).is h x.1 x.2.1:=by
    intro l m q
    induction q with
    | nil=>intro x hx; exact nomatch hx
    | @cons p q ps qs hq t ih=>
      intro x hx
      rcases List.mem_cons.mp hx with e | hx
      · subst e
        exact key_of ok (by rw [← hq.1]; exact hq.2.1)
      · exact ih x hx
  exact all r x hx
theorem dt_of {kvs:List (List Key×V)} (ok:HOk P w H h) (e:H a=some (.dT kvs)):kvs.length≤sizeLine∧(a == sysModules)=false ∧
    ∃ xs,KT H kvs xs∧h.DictOfH (tupleKind (mixKind P w)) a xs:=dt_rd ok (.inl e)
end
noncomputable def DGet (H:Hp) (a:Addr) (y:V) (r:Option V):Prop:=
  (∃ kvs k,Rd H a (.dK kvs)∧y=kV k∧r=valV kvs k)∨∃ kvs k b,Rd H a (.dT kvs)∧y=.ref b∧H b=some (.tup (k.map kV))∧r=valV kvs k
noncomputable def DPut (H:Hp) (a:Addr) (y v:V) (H':Hp):Prop:=
  (∃ kvs k,H a=some (.dK kvs)∧y=kV k∧kvs.length < sizeLine∧H'=upd H a (.dK (putK kvs k v))) ∨
  ∃ kvs k b,H a=some (.dT kvs)∧y=.ref b∧H b=some (.tup (k.map kV))∧kvs.length < sizeLine∧H'=upd H a (.dT (putK kvs k v))
theorem DGet.t {H:Hp} {a b:Addr} {kvs:List (List Key×V)} {k:List Key} (e:H a=some (.dT kvs)) (eb:H b=some (.tup (k.map kV))):DGet H a (.ref b) (valV kvs k):=.inr ⟨kvs,k,b,.inl e,rfl,eb,rfl⟩
theorem DPut.t {H:Hp} {a b:Addr} {kvs:List (List Key×V)} {k:List Key} {v:V} (e:H a=some (.dT kvs)) (eb:H b=some (.tup (k.map kV))) (hl:kvs.length < sizeLine) :
    DPut H a (.ref b) v (upd H a (.dT (putK kvs k v))):=.inr ⟨kvs,k,b,e,rfl,eb,hl,rfl⟩
section
variable {X:Cx} {pins:List (Addr×Obj)} {σ:St} {H:Hp} {s:Shared} {a:Addr} {y v:V} {u r:Value} {o:Option V} {A:Around} {E:Value→Shared→Prop}
theorem Inv.big (I:Inv X pins σ H s):sysModules < s.heap.objs.size:=by
  have h:mainGlobals < s.heap.objs.size:=(I.mod.glob.keeps I.bk).lt
  exact Nat.lt_trans (by decide) h
theorem d_getItem {Q:Value→Shared→Prop} (hu:A.units + 1 < cLine) (I:Inv X pins σ H s) (g:DGet H a y (some v)) (ry:RelV y u) (h:∀ w' s',Inv X pins σ H s'→RelV v w'→Q w' s') :
    wpAny (model X.prog X.w) A (getItem (.ref a) u) Q E s:=by
  rcases g with ⟨kvs,k,e,ey,l⟩ | ⟨kvs,k,b,e,ey,eb,l⟩
  · subst ey
    obtain ⟨z,hd,vs,rel,dd⟩:=dk_rd I.hok e
    obtain ⟨w',hw,rw'⟩:=RelO.some_of (v:=v) (o:=valueAt vs k) (by rw [l]; exact rel.val k)
    exact wpAny_getItem_of (kV_is ry) dd.mapOf hw (h w' _ (I.tok _) rw')
  · subst ey
    cases (show u=Value.ref b from ry)
    obtain ⟨z,hd,xs,rel,dd⟩:=dt_rd I.hok e
    obtain ⟨w',hw,rw'⟩:=RelO.some_of (v:=v) (o:=(atKey xs k).map (·.2)) (by rw [l]; exact rel.val k)
    obtain ⟨p,hp,hp2⟩:=Option.map_eq_some_iff.mp hw
    refine wpAny_getItem_heap (tupleKind_room_in1 hu) (key_of I.hok eb) dd hp ?_
    rw [hp2]
    exact h w' _ (I.tok _) rw'
theorem d_write {h':Heap} {t':Nat} {ob:HO} (I:Inv X pins σ H s) (mu:Mut (H a)) (hs:Heap.SameBut a s.heap h') (he:∃ q,h'.get? a=some q) (new:ObjOk X.prog X.w (upd H a ob) h' a ob) :
    Inv X pins σ (upd H a ob) { s with heap:=h',toks:=t' }:=
  I.write (x:=a) (e:=a) mu (.inl rfl) (fun b q hb z=>(hs.2 b hb).trans z) he new
theorem dk_new {P:Program} {w:World} {H':Hp} {h':Heap} {kvs:List (Key×V)} {vs:List (Key×Value)} (z:kvs.length≤sizeLine) (hd:(a == sysModules)=false) (rel:KV kvs vs) (dd:h'.DictOf (mixKind P w) a vs) :
    ObjOk P w H' h' a (.dK kvs):=⟨z,hd,vs,rel,dd⟩
theorem d_setItem {H':Hp} {Q:Unit→Shared→Prop} (hu:A.units + 1 < cLine) (I:Inv X pins σ H s) (g:DPut H a y v H') (ry:RelV y u) (rv:RelV v r) (h:∀ s',Inv X pins σ H' s'→Q () s') :
    wpAny (model X.prog X.w) A (setItem (.ref a) u r) Q E s:=by
  rcases g with ⟨kvs,k,e,ey,l,eH⟩ | ⟨kvs,k,b,e,ey,eb,l,eH⟩
  · subst ey eH
    obtain ⟨z,hd,vs,rel,dd⟩:=dk_of I.hok e
    have hz:vs.length≤sizeLine:=by rw [← rel.length]; exact z
    have hl:(putK kvs k v).length≤sizeLine:=by have:=length_putK kvs k v; lia
    refine wpAny_setItem_pairs (hsz:=hz) (kV_is ry) dd fun h' dd' hs=>h _ ?_
    have he:∃ q,h'.get? a=some q:=let ⟨q,_,_,hq,_⟩:=dd'; ⟨q,hq⟩
    exact d_write I (by rw [e]; exact True.intro) hs he (dk_new hl hd (rel.put k rv) dd')
  · subst ey eH
    cases (show u=Value.ref b from ry)
    obtain ⟨z,hd,xs,rel,dd⟩:=dt_of I.hok e
    have hz:xs.length≤sizeLine:=by rw [← Paired.length rel]; exact z
    have hl:(putK kvs k v).length≤sizeLine:=by have:=length_putK kvs k v; lia
    refine wpAny_setItem_heap (hsz:=hz) (tupleKind_room_in1 hu) (key_of I.hok eb) dd fun h' dd' hs=>h _ ?_
    obtain ⟨q,es,ep,hq,h2,h3,h4,_,h5⟩:=dd'
    refine d_write I (by rw [e]; exact True.intro) hs ⟨q,hq⟩ ⟨hl,hd,_,(rel.put k eb rv).keeps fun c ys ec=>?_,q,es,ep,hq,h2,h3,h4,h5⟩
    rw [upd_ne (ne_of ec e (fun z=>nomatch z))]
    exact ec
end
section
variable {X:Cx} {pins:List (Addr×Obj)} {σ:St} {H:Hp} {s:Shared} {a:Addr} {kvs:List (Key×V)} {k:Key} {u:Value} {A:Around} {E:Value→Shared→Prop}
end
noncomputable def NoSl (i:Expr):Prop:=∀ ov iv,subscripted i false ov iv=operate [ov,iv] (getItem ov iv)
theorem subD_of {prog:Program} {w:World} {A:Around} {E:Value→Shared→Prop} {s:Shared} {env:Env} {value slice:Expr} {pos:Pos} {T id:String} {Q:Value→Shared→Prop}
    (hl:typeLookup (.type T) "__getitem__"=pure (some (.builtin id))) (hs:NoSl slice)
    (h:wpAny (model prog w) A (eval value env) (fun o s₁=>wpAny (model prog w) A (eval slice env) (fun i s₂=>s₂.TypeIs o T∧wpAny (model prog w) A (getItem o i) Q E s₂) E s₁) E s) :
    wpAny (model prog w) A (eval (.Subscript value slice pos) env) Q E s:=by
  refine Subscript_ (wpAny_mono h (fun o s₁ h₁=>wpAny_mono h₁ (fun i s₂ h₂=>?_) fun _ _ x=>x) fun _ _ x=>x)
  obtain ⟨hT,h₂⟩:=h₂
  unfold subscriptTail
  refine wpAny_bind ?_
  rw [getitemInPython_of_ne hT.not_modules]
  refine wpAny_bind (wpAny_specialOf hT hl ?_)
  have fin:wpAny (model prog w) A (subscripted slice false o i) (fun r s₃=>wpAny (model prog w) A (letTemporaryGo value o r>>=fun _=>pure r) Q E s₃) E s₂:=by
    rw [hs o i]
    exact wpAny_operating (wpAny_mono h₂ (fun r s₃ h₃=>wpAny_bind (wpAny_letTemporaryGo (wpAny_pure h₃))) fun _ _ x=>x)
  first
    | exact wpAny_pure (wpAny_bind fin)
    | exact wpAny_bind (wpAny_pure (wpAny_bind fin))
    | exact wpAny_bind fin
theorem dict_typeIs {X:Cx} {pins:List (Addr×Obj)} {σ:St} {H:Hp} {s:Shared} {a:Addr} {y:V} {o:Option V} (I:Inv X pins σ H s) (g:DGet H a y o):s.TypeIs (.ref a) "dict":=by
  rcases g with ⟨kvs,k,e,_,_⟩ | ⟨kvs,k,b,e,_,_,_⟩
  · obtain ⟨_,_,vs,_,dd⟩:=dk_rd I.hok e
    exact dd.typeIs
  · obtain ⟨_,_,xs,_,dd⟩:=dt_rd I.hok e
    exact dd.typeIs
noncomputable def tDGet (td ty:TE):TE:=fun σ H Q=>td σ H fun x H1=>ty σ H1 fun y H2=>∃ a v,x=.ref a∧DGet H2 a y (some v)∧Q v H2
noncomputable def sDPut (td ty tv:TE):TS:=fun D σ H=>tv σ H fun v H1=>td σ H1 fun x H2=>ty σ H2 fun y H3=>∃ a H4,x=.ref a∧DPut H3 a y v H4∧D.nx σ H4
section
variable {X:Cx} {o i e value:Expr} {pos pos' tpos:Pos} {td ty tv:TE}
theorem pe_dget (hu:X.A.units + 1 < cLine) (ho:PE X o td) (hi:PE X i ty) (hs:NoSl i):PE X (.Subscript o i pos) (tDGet td ty):=by
  intro pins s σ H Q I h
  refine subD_of PySem.F.slot_dict_getitem.lookup hs (thnG (ho pins s σ H _ I h) fun u s1 x H1 I1 rx q1=>thnG (hi pins s1 σ H1 _ I1 q1) fun iv s2 y H2 I2 ry hh_=>?_)
  obtain ⟨a,v,ex,g,q2⟩:=hh_
  subst ex
  obtain rfl:u=Value.ref a:=rx
  exact ⟨dict_typeIs I2 g,d_getItem hu I2 g ry fun w' s3 I3 rw'=>⟨v,H2,I3,rw',q2⟩⟩
theorem ps_dput (hu:X.A.units + 1 < cLine) (ho:PE X o td) (hi:PE X i ty) (hv:PE X value tv) (hs:swapsWith value (some (.Subscript o i pos')) pos.line X.env=pure false) :
    PS X (.Assign [.Subscript o i pos'] value pos) (sDPut td ty tv):=by
  intro pins s σ H D I h
  refine wpAny_Assign_Subscript (thnG (hv pins s σ H _ I h) fun r s1 v H1 I1 rv q1=>thnG (ho pins s1 σ H1 _ I1 q1) fun u s2 x H2 I2 rx q2=>thnG (hi pins s2 σ H2 _ I2 q2) fun iv s3 y H3 I3 ry hh_=>?_) hs
  obtain ⟨a,H4,ex,g,q3⟩:=hh_
  subst ex
  obtain rfl:u=Value.ref a:=rx
  exact d_setItem hu I3 g ry rv fun s4 I4=>⟨σ,H4,I4,q3⟩
end
theorem dt_empty {P:Program} {w:World} {H:Hp} (h:Heap) (hb:sysModules < h.objs.size):ObjOk P w H (h.push { cls:=.type "dict",data:=.dict #[] }) h.objs.size (.dT []):=
  ⟨Nat.zero_le _,beq_eq_false_iff_ne.mpr (Ne.symm (Nat.ne_of_lt hb)),[],.nil,_,#[],0,Heap.get?_push_size _ rfl,⟨rfl,rfl,rfl⟩,rfl,rfl,List.nodup_nil⟩
noncomputable def tDNewT:TE:=fun _ H Q=>∀ p,H p=none→Q (.ref p) (upd H p (.dT []))
section
variable {X:Cx} {pos:Pos}
theorem pe_dnewT:PE X (.Dict [] [] pos) tDNewT:=fun pins s σ H Q I h=>
  wpAny_Dict_empty ⟨.ref s.heap.objs.size,_,I.laid (a:=s.heap.objs.size) (o:=.dT []) (t':=s.toks) (fun _ _ q=>Heap.get?_push_of_some _ q) (Nat.le_refl _) (dt_empty s.heap I.big),rfl,h _ (I.hok.fresh (Nat.le_refl _))⟩
end
structure M2 (X:Cx) (o:Expr) (m:Str) (apos:Pos) (e f:Expr) (cpos:Pos):Prop where
  base:attributeBase o m X.env (eval o X.env)=eval o X.env
  few:((backTo cpos (starEach [e,f] X.env)).all (fun x=>!x.1)&&(backToKw cpos (keywordEach [] X.env)).all (fun x=>x.1.isSome)
    && decide (([e,f]:List Expr).length + ([]:List Keyword).length + (if ([]:List Keyword).isEmpty then 0 else 1) < 30))=true
  line:(apos.endLine == cpos.line)=true
  trees:backTo cpos (starEach [e,f] X.env)=[(false,eval e X.env),(false,eval f X.env)]
noncomputable def IsD (H:Hp) (a:Addr):Prop:=(∃ kvs,Rd H a (.dK kvs))∨∃ kvs,Rd H a (.dT kvs)
theorem isD_at {X:Cx} {pins:List (Addr×Obj)} {σ:St} {H:Hp} {s:Shared} {a:Addr} (I:Inv X pins σ H s) (d:IsD H a) :
    s.TypeIs (.ref a) "dict"∧(∀ b,Value.ref a=.ref b→∃ ob,s.heap.get? b=some ob∧ob.dict=none)∧(a == sysModules)=false:=by
  rcases d with ⟨kvs,e⟩ | ⟨kvs,e⟩
  · obtain ⟨_,hd,vs,_,dd⟩:=dk_rd I.hok e
    refine ⟨dd.typeIs,fun b q=>?_,hd⟩
    cases q
    obtain ⟨ob,_,_,h1,h2,_⟩:=dd
    exact ⟨ob,h1,h2.2.1⟩
  · obtain ⟨_,hd,xs,_,dd⟩:=dt_rd I.hok e
    refine ⟨dd.typeIs,fun b q=>?_,hd⟩
    cases q
    obtain ⟨ob,_,_,h1,h2,_⟩:=dd
    exact ⟨ob,h1,h2.2.1⟩
section
variable {X:Cx} {pins:List (Addr×Obj)} {σ:St} {H:Hp} {s:Shared} {a:Addr} {y d:V} {u r:Value} {o:Option V} {A:Around} {E:Value→Shared→Prop}
theorem d_get2 {Q:Value→Shared→Prop} (hu:A.units + 1 < cLine) (I:Inv X pins σ H s) (g:DGet H a y o) (ry:RelV y u) (rd:RelV d r) (h:∀ w' s',Inv X pins σ H s'→RelV (o.getD d) w'→Q w' s') :
    wpAny (model X.prog X.w) A (call (.builtin "dict.get") [.ref a,u,r]) Q E s:=by
  rcases g with ⟨kvs,k,e,ey,l⟩ | ⟨kvs,k,b,e,ey,eb,l⟩
  · subst ey
    obtain ⟨z,hd,vs,rel,dd⟩:=dk_rd I.hok e
    refine call_meetsIn PySem.F.slot_dict_get dd.typeIs PySem.F.entry_dict_get (PySem.F.args_dict_get_3 _ _ _) (meets_dict_get_default (mixKind X.prog X.w) a (kV_is ry) hd r) ⟨_,dd.mapOf,h _ _ (I.tok _) ?_⟩
    rw [l]
    exact (rel.val k).getD rd
  · subst ey
    cases (show u=Value.ref b from ry)
    obtain ⟨z,hd,xs,rel,dd⟩:=dt_rd I.hok e
    refine call_meetsIn PySem.F.slot_dict_get dd.typeIs PySem.F.entry_dict_get (PySem.F.args_dict_get_3 _ _ _) (meetsH_dict_get_default (tupleKind (mixKind X.prog X.w)) a b hd r) ⟨tupleKind_room_in1 hu,k,xs,key_of I.hok eb,dd,h _ _ (I.tok _) ?_⟩
    rw [l]
    exact (rel.val k).getD rd
end
noncomputable def tDGet2 (td ty tx:TE):TE:=fun σ H Q=>td σ H fun x H1=>∃ a,x=.ref a∧IsD H1 a∧ty σ H1 fun y H2=>tx σ H2 fun z H3=>∃ o,DGet H3 a y o∧Q (o.getD z) H3
section
variable {X:Cx} {o e f:Expr} {apos cpos:Pos} {td ty tx:TE}
theorem pe_dget2 (hu:X.A.units + 1 < cLine) (ho:PE X o td) (he:PE X e ty) (hf:PE X f tx) (m:M2 X o "get" apos e f cpos):PE X (.Call (.Attribute o "get" apos) [e,f] [] cpos) (tDGet2 td ty tx):=by
  intro pins s σ H Q I h
  refine wpAny_Call_method m.base m.few m.line PySem.F.plainAttrs_dict PySem.F.slot_dict_get PySem.F.type_dict_get (thnG (ho pins s σ H _ I h) fun u s1 x H1 I1 rx hh_=>?_)
  obtain ⟨a,ex,d,q1⟩:=hh_
  subst ex
  obtain rfl:u=Value.ref a:=rx
  obtain ⟨t1,t2,_⟩:=isD_at I1 d
  refine ⟨t1,t2,?_⟩
  rw [m.trees]
  refine Calls.callWith_builtin rfl (Calls.evalArgs_plain (Calls.spliced_cons (thnG (he pins s1 σ H1 _ I1 q1) fun iv s2 y H2 I2 ry q2=>
    Calls.spliced_cons (thnG (hf pins s2 σ H2 _ I2 q2) fun fv s3 z H3 I3 rz ⟨ov,g,q3⟩=>Calls.spliced_nil ?_))))
  exact d_get2 hu I3 g ry rz fun w' s4 I4 rw'=>⟨_,H3,I4,rw',q3⟩
end
section
variable {X:Cx} {pins:List (Addr×Obj)} {σ:St} {H:Hp} {s:Shared} {a:Addr} {kvs:List (Key×V)} {A:Around} {E:Value→Shared→Prop}
end
section
variable {X:Cx} {pins:List (Addr×Obj)} {σ:St} {H:Hp} {s:Shared} {a:Addr} {y:V} {u:Value} {A:Around} {E:Value→Shared→Prop}
end
section
variable {κ:Type} [DecidableEq κ]
end
end L2
set_option maxHeartbeats 4000000
namespace L2
open PySem PySem.Spec PyProof.Rows
noncomputable def closeL (cs:List (Str×Addr)):List (Str×NameKind)→List (Str×Addr)→List (Str×Addr)
  | [],acc=>acc
  | (n,k)::r,acc=>if k == .free then closeL cs r ((n,(cs.lookup n).getD 0)::acc) else closeL cs r acc
theorem closure_eq {scope:Scope} {env:Env} (h:∀ x∈scope.names,x.2=.free→∃ c,env.cells.lookup x.1=some c):closureFor scope env=pure (closeL env.cells scope.names []):=by
  have key:∀ (names:List (Str×NameKind)) (acc:List (Str×Addr)) (f:Str×NameKind→List (Str×Addr)→Sem (ForInStep (List (Str×Addr)))),
      (∀ n k r,f (n,k) r=if k == .free then (cellOf env n>>=fun c=>pure (.yield ((n,c)::r))) else pure (.yield r))→
      (∀ x∈names,x.2=.free→∃ c,env.cells.lookup x.1=some c)→forIn names acc f=pure (closeL env.cells names acc):=by
    intro names
    induction names with
    | nil=>intro acc f _ _; rfl
    | cons x r ih=>
      intro acc f hf hx
      obtain ⟨n,k⟩:=x
      rw [List.forIn_cons,hf]
      unfold closeL
      by_cases hk:(k == NameKind.free)=true
      · rw [if_pos hk,if_pos hk]
        obtain ⟨c,hc⟩:=hx (n,k) List.mem_cons_self (by simpa using hk)
        have e:cellOf env n=pure c:=by unfold cellOf; rw [hc]
        rw [e,pure_bind,pure_bind,hc]
        exact ih _ f hf fun y hy=>hx y (List.mem_cons_of_mem _ hy)
      · rw [if_neg hk,if_neg hk,pure_bind]
        exact ih _ f hf fun y hy=>hx y (List.mem_cons_of_mem _ hy)
  unfold closureFor
  show (forIn scope.names ([]:List (Str×Addr)) _>>=fun cs=>pure cs)=_
  rw [key scope.names [] _ (fun n k r=>by
    by_cases hk:(k == NameKind.free)=true
    · simp only [hk,if_true]
    · simp only [hk]) h]
  rfl
theorem look_cons {α:Type} (y n:Str) (c:α) (l:List (Str×α)):((n,c)::l).lookup y=if y=n then some c else l.lookup y:=by
  rw [List.lookup_cons]
  by_cases h:y=n
  · subst h; simp
  · have:(y == n)=false:=by simpa using h
    rw [this,if_neg h]
theorem closeL_sub {cs:List (Str×Addr)}:∀ (names:List (Str×NameKind)) (acc:List (Str×Addr)) (y:Str) (c:Addr),
    (∀ x∈names,x.2=.free→∃ c,cs.lookup x.1=some c)→(∀ y c,acc.lookup y=some c→cs.lookup y=some c)→(closeL cs names acc).lookup y=some c→cs.lookup y=some c
  | [],acc,y,c,_,h,e=>h y c e
  | (n,k)::r,acc,y,c,hx,h,e=>by
    unfold closeL at e
    have hr:∀ x∈r,x.2=.free→∃ c,cs.lookup x.1=some c:=fun x hm=>hx x (List.mem_cons_of_mem _ hm)
    by_cases hk:(k == NameKind.free)=true
    · rw [if_pos hk] at e
      refine closeL_sub r _ y c hr (fun z d ez=>?_) e
      obtain ⟨c',hc'⟩:=hx (n,k) List.mem_cons_self (by simpa using hk)
      rw [look_cons] at ez
      split at ez
      · rename_i q
        subst q
        cases ez
        rw [hc']
        rfl
      · exact h z d ez
    · rw [if_neg hk] at e
      exact closeL_sub r acc y c hr h e
theorem closeL_names {cs:List (Str×Addr)}:∀ (names:List (Str×NameKind)) (acc:List (Str×Addr)) (y:Str) (c:Addr),
    (closeL cs names acc).lookup y=some c→(y,NameKind.free)∈names∨acc.lookup y=some c
  | [],acc,y,c,e=>.inr e
  | (n,k)::r,acc,y,c,e=>by
    unfold closeL at e
    by_cases hk:(k == NameKind.free)=true
    · rw [if_pos hk] at e
      have hk':k=.free:=by simpa using hk
      rcases closeL_names r _ y c e with q | q
      · exact .inl (List.mem_cons_of_mem _ q)
      · rw [look_cons] at q
        split at q
        · rename_i z
          subst z
          subst hk'
          exact .inl List.mem_cons_self
        · exact .inr q
    · rw [if_neg hk] at e
      rcases closeL_names r acc y c e with q | q
      · exact .inl (List.mem_cons_of_mem _ q)
      · exact .inr q
theorem closeL_has {cs:List (Str×Addr)}:∀ (names:List (Str×NameKind)) (acc:List (Str×Addr)) (y:Str),
    ((y,NameKind.free)∈names∨∃ c,acc.lookup y=some c)→∃ c,(closeL cs names acc).lookup y=some c
  | [],acc,y,h=>h.elim (fun z=>by cases z) id
  | (n,k)::r,acc,y,h=>by
    unfold closeL
    by_cases hk:(k == NameKind.free)=true
    · rw [if_pos hk]
      refine closeL_has r _ y ?_
      rcases h with h | ⟨c,h⟩
      · rcases List.mem_cons.mp h with q | q
        · cases q
          exact .inr ⟨_,by rw [look_cons,if_pos rfl]⟩
        · exact .inl q
      · refine .inr ?_
        by_cases q:y=n
        · exact ⟨_,by rw [look_cons,if_pos q]⟩
        · exact ⟨c,by rw [look_cons,if_neg q]; exact h⟩
    · rw [if_neg hk]
      refine closeL_has r acc y ?_
      rcases h with h | h
      · rcases List.mem_cons.mp h with q | q
        · cases q
          exact absurd rfl hk
        · exact .inl q
      · exact .inr h
theorem cf_look:∀ (names:List (Str×NameKind)) (h:Heap) (acc:List (Str×Addr)) (y:Str) (c:Addr),(cellsFrom h.objs.size names acc).lookup y=some c→
    (h.objs.size≤c∧(pushCells h names).IsCell c none∧(y,NameKind.cell)∈names)∨acc.lookup y=some c
  | [],_,_,_,_,e=>.inr e
  | (n,k)::r,h,acc,y,c,e=>by
    unfold cellsFrom at e
    unfold pushCells
    by_cases hk:(k == NameKind.cell)=true
    · rw [if_pos hk] at e ⊢
      have hk':k=.cell:=by simpa using hk
      have hz:(h.push { cls:=.type "cell",data:=.cell none }).objs.size=h.objs.size + 1:=Heap.size_push ..
      rw [← hz] at e
      rcases cf_look r _ _ y c e with ⟨q1,q2,q3⟩ | q
      · exact .inl ⟨by rw [hz] at q1; lia,q2,List.mem_cons_of_mem _ q3⟩
      · rw [look_cons] at q
        split at q
        · rename_i z
          subst z
          cases q
          subst hk'
          exact .inl ⟨Nat.le_refl _,⟨_,pushCells_keeps r _ _ _ (Heap.get?_push_size _ rfl),rfl⟩,List.mem_cons_self⟩
        · exact .inr q
    · rw [if_neg hk] at e ⊢
      rcases cf_look r h acc y c e with ⟨q1,q2,q3⟩ | q
      · exact .inl ⟨q1,q2,List.mem_cons_of_mem _ q3⟩
      · exact .inr q
theorem cf_old {y:Str}:∀ (names:List (Str×NameKind)) (n:Nat) (acc:List (Str×Addr)),(∀ k,(y,k)∈names→k≠.cell)→(cellsFrom n names acc).lookup y=acc.lookup y
  | [],_,_,_=>rfl
  | (m,k)::r,n,acc,h=>by
    unfold cellsFrom
    have hr:∀ k,(y,k)∈r→k≠.cell:=fun k hk=>h k (List.mem_cons_of_mem _ hk)
    by_cases hk:(k == NameKind.cell)=true
    · rw [if_pos hk,cf_old r _ _ hr,look_cons,if_neg]
      rintro rfl
      exact h k List.mem_cons_self (by simpa using hk)
    · rw [if_neg hk]
      exact cf_old r n acc hr
theorem cf_inj:∀ (names:List (Str×NameKind)) (n:Nat) (acc:List (Str×Addr)),(∀ y c,acc.lookup y=some c→c < n)→(∀ y z c,acc.lookup y=some c→acc.lookup z=some c→y=z)→
    ∀ y z c,(cellsFrom n names acc).lookup y=some c→(cellsFrom n names acc).lookup z=some c→y=z
  | [],_,_,_,h=>h
  | (m,k)::r,n,acc,hlt,h=>by
    unfold cellsFrom
    by_cases hk:(k == NameKind.cell)=true
    · rw [if_pos hk]
      refine cf_inj r (n + 1) _ (fun y c e=>?_) fun y z c e e'=>?_
      · rw [look_cons] at e
        split at e
        · cases e; exact Nat.lt_succ_self _
        · exact Nat.lt_succ_of_lt (hlt y c e)
      · rw [look_cons] at e e'
        split at e <;> split at e'
        · rename_i a b; rw [a,b]
        · cases e; exact absurd (hlt z _ e') (Nat.lt_irrefl _)
        · cases e'; exact absurd (hlt y _ e) (Nat.lt_irrefl _)
        · exact h y z c e e'
    · rw [if_neg hk]
      exact cf_inj r n acc hlt h
noncomputable def blkEnv (env:Env) (scope:Scope) (C:Addr):Env:=
  { scope:=relabel scope env,locals:=C,globals:=env.globals,cells:=cellsFrom (C + 1) scope.names (closeL env.cells scope.names []),qual:=env.qual,func:=none,code:=env.code,frame:=env.frame,builtins:=env.builtins }
noncomputable def blk (X:Cx) (scope:Scope) (N:List Str) (s:Shared) (H:Hp) (fp:List Addr) (pins:List (Addr×Obj)):Cx where
  prog:=X.prog
  w:=X.w
  K:=X.K
  mg:=X.mg
  base:=X.base
  A:=X.A
  N:=N
  s₀:=s
  H₀:=H
  env:=blkEnv X.env scope s.heap.objs.size
  outer:=X.stack
  stack:=X.stack
  ex:=fp
  fn:=fun x=>scope.names.lookup x == some .local||scope.names.lookup x == some .cell
  calm:=X.calm
  pn:=X.pn++pins
  xe:=fun _ _=>False
structure BlkScope (X:Cx) (scope:Scope):Prop where
  kind:scope.kind=.function
  nd:(scope.names.map (·.1)).Nodup
  free:∀ x∈scope.names,x.2=.free→X.env.kindOf x.1=some .cell∨X.env.kindOf x.1=some .free
theorem lookup_of_mem {α:Type}:∀ {l:List (Str×α)} {n:Str} {c:α},(l.map (·.1)).Nodup→(n,c)∈l→l.lookup n=some c
  | [],_,_,_,h=>by cases h
  | (k,v)::r,n,c,nd,h=>by
    rw [look_cons]
    rcases List.mem_cons.mp h with q | q
    · cases q; rw [if_pos rfl]
    · have nd':=List.nodup_cons.mp nd
      rw [if_neg]
      · exact lookup_of_mem nd'.2 q
      · rintro rfl
        exact nd'.1 (List.mem_map.mpr ⟨_,q,rfl⟩)
theorem relabel_look {env:Env} {x:Str}:∀ (names:List (Str×NameKind)),
    (names.map fun (n,k)=>if (k == NameKind.free&&env.scope.kind == .function&&env.kindOf n == some .cell) then (n,NameKind.cell) else (n,k)).lookup x =
      (names.lookup x).map fun k=>if (k == NameKind.free&&env.scope.kind == .function&&env.kindOf x == some .cell) then NameKind.cell else k
  | []=>rfl
  | (n,k)::r=>by
    show List.lookup x ((if (k == NameKind.free&&env.scope.kind == .function&&env.kindOf n == some .cell)=true then (n,NameKind.cell) else (n,k))::_)=_
    have e:(if (k == NameKind.free&&env.scope.kind == .function&&env.kindOf n == some .cell)=true then (n,NameKind.cell) else (n,k)) =
        (n,if (k == NameKind.free&&env.scope.kind == .function&&env.kindOf n == some .cell)=true then NameKind.cell else k):=by split <;> rfl
    rw [e,look_cons,look_cons]
    split
    · rename_i q
      subst q
      rfl
    · exact relabel_look r
theorem blk_kindOf {env:Env} {scope:Scope} {C:Addr} (x:Str):(blkEnv env scope C).kindOf x =
    (scope.names.lookup x).map fun k=>if (k == NameKind.free&&env.scope.kind == .function&&env.kindOf x == some .cell) then NameKind.cell else k:=relabel_look scope.names
section
variable {X:Cx} {pins:List (Addr×Obj)} {σ:St} {H:Hp} {s:Shared} {scope:Scope} {N:List Str} {fp:List Addr}
theorem BlkScope.cl (b:BlkScope X scope) (ok:X.Ok):∀ x∈scope.names,x.2=.free→∃ c,X.env.cells.lookup x.1=some c:=fun x hx e=>ok.has x.1 (b.free x hx e)
theorem blk_cells (b:BlkScope X scope) (I:Inv X pins σ H s) {y:Str} {c:Addr} (e:(blkEnv X.env scope s.heap.objs.size).cells.lookup y=some c) :
    (s.heap.objs.size < c∧(pushCells (s.heap.push { cls:=.type "dict",data:=.dict #[] }) scope.names).IsCell c none∧(y,NameKind.cell)∈scope.names)∨(X.env.cells.lookup y=some c∧(y,NameKind.free)∈scope.names):=by
  have hz:(s.heap.push { cls:=.type "dict",data:=.dict #[] }).objs.size=s.heap.objs.size + 1:=Heap.size_push ..
  have e':(cellsFrom (s.heap.push { cls:=.type "dict",data:=.dict #[] }).objs.size scope.names (closeL X.env.cells scope.names [])).lookup y=some c:=by rw [hz]; exact e
  rcases cf_look _ _ _ _ _ e' with ⟨h1,h2,h3⟩ | h
  · exact .inl ⟨by rw [hz] at h1; lia,h2,h3⟩
  · refine .inr ⟨closeL_sub _ _ y c (b.cl I.ok) (fun _ _ z=>by cases z) h,?_⟩
    rcases closeL_names _ _ _ _ h with q | q
    · exact q
    · cases q
theorem blk_ok (b:BlkScope X scope) (I:Inv X pins σ H s) (hf:∀ a∈fp,FpOk X pins H a) (hlt:∀ a∈fp,a < s.heap.objs.size):(blk X scope N s H fp pins).Ok:=by
  have clt:∀ y c,X.env.cells.lookup y=some c→c < s.heap.objs.size:=fun y c e=>by obtain ⟨v,q⟩:=I.cell y c e; exact q.lt
  refine ⟨I.ok.mod,b.kind,I.ok.glob,I.ok.blt,Nat.le_refl _,fun x y c e e'=>?_,fun x hx=>?_,fun x c hx e=>?_,I.ok.hd,I.ok.frames,.inl rfl,fun a ha=>⟨Nat.ne_of_lt (hlt a ha),fun x c e=>?_⟩,I.bs,Nat.le_trans I.ok.bsz I.sz,fun a o e ha=>?_,fun a ha=>?_,I.stack,I.stkFree⟩
  · refine cf_inj scope.names (s.heap.objs.size + 1) _ (fun y c q=>?_) (fun y z c q q'=>?_) x y c e e'
    · exact Nat.lt_succ_of_lt (clt y c (closeL_sub _ _ y c (b.cl I.ok) (fun _ _ z=>by cases z) q))
    · exact I.ok.inj y z c (closeL_sub _ _ y c (b.cl I.ok) (fun _ _ z=>by cases z) q) (closeL_sub _ _ z c (b.cl I.ok) (fun _ _ z=>by cases z) q')
  · have hx':(blkEnv X.env scope s.heap.objs.size).kindOf x=some .cell∨(blkEnv X.env scope s.heap.objs.size).kindOf x=some .free:=hx
    rw [blk_kindOf] at hx'
    show ∃ c,(cellsFrom (s.heap.objs.size + 1) scope.names (closeL X.env.cells scope.names [])).lookup x=some c
    cases q:scope.names.lookup x with
    | none=>rw [q] at hx'; rcases hx' with z | z <;> cases z
    | some k=>
      have hm:(x,k)∈scope.names:=PySem.mem_of_lookup q
      cases k with
      | cell=>exact Option.isSome_iff_exists.mp (PySem.W.cellsFrom_some scope.names _ _ (.inl q))
      | free=>
        obtain ⟨c,hc⟩:=closeL_has (cs:=X.env.cells) scope.names [] x (.inl hm)
        exact Option.isSome_iff_exists.mp (PySem.W.cellsFrom_some scope.names _ _ (.inr (by rw [hc]; rfl)))
      | _=>rw [q] at hx'; exfalso; revert hx'; simp
  · rcases blk_cells b I e with ⟨h1,_,_⟩ | ⟨_,h2⟩
    · exact Nat.le_of_lt h1
    · exfalso
      have q:=lookup_of_mem b.nd h2
      have hx':(scope.names.lookup x == some .local||scope.names.lookup x == some .cell)=true:=hx
      rw [q] at hx'
      revert hx'
      decide
  · rcases blk_cells b I e with ⟨h1,_,_⟩ | ⟨h1,_⟩
    · intro z
      subst z
      exact absurd (Nat.lt_trans (hlt _ ha) h1) (Nat.lt_irrefl _)
    · exact (hf a ha).2.2.2.2.1 x c h1
  · have h4:=(hf a ha).2.2.2.1
    rcases h4 with z | z
    · exact I.ok.noex a o e z
    · exact absurd (Nat.lt_of_lt_of_le (Heap.lt_size e) (Nat.le_trans I.ok.bsz z)) (Nat.lt_irrefl _)
  · intro z
    rcases List.mem_cons.mp (I.stkSub a z) with q | q
    · exact (hf a ha).2.1 q
    · exact (hf a ha).2.2.1 q
noncomputable def capSt (own:Nat) (ix:List Nat) (σ:St):St:=List.replicate own none++ix.map fun j=>(σ[j]?).join
theorem capSt_len (own:Nat) (ix:List Nat) (σ:St):(capSt own ix σ).length=own + ix.length:=by
  unfold capSt; rw [List.length_append,List.length_replicate,List.length_map]
theorem capSt_get {own:Nat} {ix:List Nat} {σ:St} {i:Nat} {v:V} (h:(capSt own ix σ)[i]?=some (some v)):own≤i∧∃ j,ix[i - own]?=some j∧σ[j]?=some (some v):=by
  unfold capSt at h
  by_cases hi:i < own
  · rw [List.getElem?_append_left (by rw [List.length_replicate]; exact hi),List.getElem?_replicate,if_pos hi] at h
    cases h
  · rw [List.getElem?_append_right (by rw [List.length_replicate]; lia),List.length_replicate,List.getElem?_map] at h
    refine ⟨by lia,?_⟩
    cases q:ix[i - own]? with
    | none=>rw [q] at h; cases h
    | some j=>
      rw [q] at h
      refine ⟨j,rfl,?_⟩
      cases q2:σ[j]? with
      | none=>rw [Option.map_some,q2] at h; cases h
      | some o=>
        rw [Option.map_some,q2] at h
        cases o with
        | none=>cases h
        | some v'=>rw [Option.join_some] at h; cases h; rfl
structure Caps (X:Cx) (scope:Scope) (N:List Str) (own:Nat) (ix:List Nat):Prop where
  len:N.length=own + ix.length
  cap:∀ (i:Nat) (j:Nat) (x:Str),N[own + i]?=some x→ix[i]?=some j→X.N[j]?=some x∧scope.names.lookup x=some .free
theorem blk_start {own:Nat} {ix:List Nat} (b:BlkScope X scope) (cp:Caps X scope N own ix) (I:Inv X pins σ H s) (hf:∀ a∈fp,FpOk X pins H a) (hlt:∀ a∈fp,a < s.heap.objs.size) :
    Inv (blk X scope N s H fp pins) [] (capSt own ix σ) H { s with heap:=pushCells (s.heap.push { cls:=.type "dict",data:=.dict #[] }) scope.names }:=by
  have kp:∀ a o,s.heap.get? a=some o→(pushCells (s.heap.push { cls:=.type "dict",data:=.dict #[] }) scope.names).get? a=some o:=fun a o e=>pushCells_keeps _ _ a o (Heap.get?_push_of_some _ e)
  refine ⟨blk_ok b I hf hlt,rfl,I.bare,Un.kept kp,⟨_,(Heap.Ns.new s.heap (.type "dict")).keeps (pushCells_keeps _ _),fun i x v e1 e2 e3=>?_⟩,fun y c e=>?_,I.fresh,fun y c e=>?_,fun p hp=>?_,I.hok.kept kp,?_⟩
  · obtain ⟨ho,j,ej,ev⟩:=capSt_get e2
    have e1':N[own + (i - own)]?=some x:=by rw [show own + (i - own)=i by lia]; exact e1
    obtain ⟨hN,hfree⟩:=cp.cap (i - own) j x e1' ej
    obtain ⟨m,hn,hl⟩:=I.loc
    have hk:X.env.kindOf x=some .cell∨X.env.kindOf x=some .free:=b.free (x,.free) (PySem.mem_of_lookup hfree) rfl
    have hv:Vis X.env.scope x:=hk.elim (fun z=>.inr (.inl z)) fun z=>.inr (.inr z)
    obtain ⟨u,r,lk⟩:=hl j x v hN ev hv
    refine ⟨u,r,.inr ⟨?_,?_⟩⟩
    · show (blkEnv X.env scope s.heap.objs.size).kindOf x=some .cell∨(blkEnv X.env scope s.heap.objs.size).kindOf x=some .free
      rw [blk_kindOf,hfree]
      show some (if _ then NameKind.cell else NameKind.free)=some .cell∨some (if _ then NameKind.cell else NameKind.free)=some .free
      split
      · exact .inl rfl
      · exact .inr rfl
    · rcases lk with ⟨k,_⟩ | ⟨_,c,ec,z⟩
      · rw [k] at hk
        rcases hk with z | z <;> cases z
      · refine ⟨c,?_,z.keeps kp⟩
        show (cellsFrom (s.heap.objs.size + 1) scope.names (closeL X.env.cells scope.names [])).lookup x=some c
        rw [cf_old]
        · obtain ⟨c',hc'⟩:=closeL_has (cs:=X.env.cells) scope.names [] x (.inl (PySem.mem_of_lookup hfree))
          have:=closeL_sub _ _ x c' (b.cl I.ok) (fun _ _ z=>by cases z) hc'
          rw [ec] at this
          cases this
          exact hc'
        · intro k hk' z
          rw [lookup_of_mem b.nd hk'] at hfree
          cases hfree
          cases z
  · rcases blk_cells b I e with ⟨_,h2,_⟩ | ⟨h1,_⟩
    · exact ⟨_,h2⟩
    · obtain ⟨v,z⟩:=I.cell y c h1
      exact ⟨v,z.keeps kp⟩
  · rcases blk_cells b I e with ⟨h1,_,_⟩ | ⟨h1,_⟩
    · exact I.hok.fresh (Nat.le_of_lt h1)
    · exact I.freeC y c h1
  · have hp':p∈X.pn++pins:=by
      have:p∈(X.pn++pins)++[]:=hp
      rwa [List.append_nil] at this
    obtain ⟨e,n,ne,nf,d⟩:=I.pin p hp'
    refine ⟨kp _ _ e,n,Nat.ne_of_lt (Heap.lt_size e),fun z=>?_,d⟩
    rcases List.mem_cons.mp (I.stkSub p.1 z) with q | q
    · exact ne q
    · exact nf q
  · rw [capSt_len]
    exact cp.len.symm
theorem blk_exit {σ':St} {H':Hp} {s':Shared} {h':Heap} {pl:List (Addr×Obj)} (I:Inv X pins σ H s) (hf:∀ a∈fp,FpOk X pins H a) (J:Inv (blk X scope N s H fp pins) pl σ' H' s') (hs:Heap.SameBut s.heap.objs.size s'.heap h') :
    Inv X pins σ H' { s' with heap:=h' }:=by
  have hC:H' s.heap.objs.size=none:=J.free
  have ne:∀ a o,s.heap.get? a=some o→a≠s.heap.objs.size:=fun a o e=>Nat.ne_of_lt (Heap.lt_size e)
  have u:Un (frs X.stack) fp H H' s.heap s'.heap:=J.base
  refine I.call' (ch:=fp) (s':={ s' with heap:=h' }) J.os ⟨fun a o e n h1 h2=>(hs.2 a (ne a o e)).trans (u.keep a o e n h1 h2),fun a o e n h1 h2=>?_,fun a o e n h2=>u.free a o e n h2,fun a o e h2=>?_,u.tups,u.frzs,u.tbls⟩ (fun a o e=>?_) J.bare fun a ha=>?_
  · obtain ⟨sl,q⟩:=u.slot a o e n h1 h2
    exact ⟨sl,(hs.2 a (ne a o e)).trans q⟩
  · obtain ⟨o',q⟩:=u.there a o e h2
    exact ⟨o',(hs.2 a (ne a o e)).trans q⟩
  · refine (J.hok a o e).stay (fun c v hc q=>(hs.2 c ?_).trans q) (fun _ q=>q) fun _ _ q=>q
    rintro rfl
    rcases hc with rfl | hc
    · rw [hC] at e; cases e
    · rw [hC] at hc; cases hc
  · obtain ⟨_,h2,_,h4,h5,h6⟩:=hf a ha
    exact ⟨h4,h2,h5,h6⟩
theorem blk_fp {pl:List (Addr×Obj)} {H':Hp} (b:BlkScope X scope) (I:Inv X pins σ H s) (hf:∀ a∈fp,FpOk X pins H a) (hlt:∀ a∈fp,a < s.heap.objs.size) (hn:∀ a∈fp,H' a=none) :
    ∀ a∈fp,FpOk (blk X scope N s H fp pins) [] H' a:=fun a ha=>by
  obtain ⟨_,h2,h3,h4,h5,h6⟩:=hf a ha
  refine ⟨hn a ha,Nat.ne_of_lt (hlt a ha),fun z=>?_,.inl ha,fun x c e=>?_,fun p hp=>?_⟩
  · rcases List.mem_cons.mp (I.stkSub a z) with q | q
    · exact h2 q
    · exact h3 q
  · rcases blk_cells b I e with ⟨q,_,_⟩ | ⟨q,_⟩
    · intro z
      subst z
      exact absurd (Nat.lt_trans (hlt _ ha) q) (Nat.lt_irrefl _)
    · exact h5 x c q
  · have hp':p∈X.pn++pins:=by
      have:p∈(X.pn++pins)++[]:=hp
      rwa [List.append_nil] at this
    exact h6 p hp'
end
theorem newEnv_blk {M:Model} {A:Around} {E:Value→Shared→Prop} {s:Shared} {scope:Scope} {env:Env} {Q:Env→Shared→Prop} (cl:List (Str×Addr))
    (h:∀ cenv:Env,cenv={ scope:=scope,locals:=s.heap.objs.size,globals:=env.globals,cells:=cellsFrom (s.heap.objs.size + 1) scope.names cl,qual:=env.qual,func:=none,code:=env.code,frame:=env.frame,builtins:=env.builtins }→
      Q cenv { s with heap:=pushCells (s.heap.push { cls:=.type "dict",data:=.dict #[] }) scope.names }) :
    wpAny M A (newFunctionEnv scope env.globals cl [] env.qual none .none (some env)) Q E s:=by
  simp only [newFunctionEnv,Option.isSome_some,if_true]
  refine wpAny_bind (wpAny_alloc ?_)
  refine wpAny_bind (wpAny_layCells _ (fun name kind cells=>by cases hkc:kind == NameKind.cell <;> simp [hkc]) _ _ _ _ ?_)
  rw [show ({ s with heap:=s.heap.push { cls:=.type "dict",data:=.dict #[] } }:Shared).heap.objs.size=s.heap.objs.size + 1 from Heap.size_push ..]
  refine wpAny_bind ?_
  rw [List.forIn_nil]
  exact wpAny_pure (wpAny_pure (h _ rfl))
theorem comp_loop {prog:Program} {w:World} {A:Around} {R:Result→Shared→Prop} {s:Shared} {elt target iter:Expr} {ifs:List Expr} {scope:Scope} {pos:Pos} {it acc:Value} {env:Env} (I:Nat→Shared→Prop)
    (turn:∀ n s,I n s→wpAny (model prog w) A (pyNext it) (fun r s₁=>match r with
      | none=>R (.ok .next) s₁
      | some v=>wpAny (model prog w) A (letOwnedTupleGo target it v) (fun _ s₁=>wpAny (model prog w) A (assign target env v) (fun _ s₂=>
          wpAny (model prog w) A (forIn ifs true fun c r=>if r=true then do let ok ← isTrue c env (eval c env); pure (ForInStep.yield ok) else pure (ForInStep.yield r)) (fun ok s₃=>
            if ok=true then wpAny (model prog w) A (eval elt env) (fun x s₄=>
              wpAny (model prog w) A (call (.builtin "list.append") [acc,x]) (fun _ s₅=>∃ m,m < n∧I m s₅) (fun _ _=>False) s₄) (fun _ _=>False) s₃
            else ∃ m,m < n∧I m s₃) (fun _ _=>False) s₂) (fun _ _=>False) s₁) (fun _ _=>False) s₁) (fun _ _=>False) s)
    (n:Nat) (h:I n s) :
    codeAny (model prog w) A (.compLoop (.ListComp elt [⟨target,iter,ifs,0⟩] scope pos) 0 it acc env) R s:=by
  refine codeAny_loop rfl I (fun n s hI=>?_) n h
  show wpAny _ A ((compTurn (.ListComp elt [⟨target,iter,ifs,0⟩] scope pos) 0 it acc env).onRaise (fun x=>do noteFrame x env; theTreesLotGoes x)) _ _ s
  refine wpAny_noted ?_
  rw [compTurn_list]
  refine wpAny_bind (wpAny_standAt (wpAny_bind (wpAny_mono (turn n s hI) (fun r s₁ h₁=>?_) fun _ _ h'=>h'.elim)))
  cases r with
  | none=>exact wpAny_pure h₁
  | some v=>
    refine wpAny_bind (wpAny_mono h₁ (fun _ s₁' h₁'=>?_) fun _ _ h'=>h'.elim)
    refine wpAny_bind (wpAny_mono h₁' (fun _ s₂ h₂=>wpAny_bind (wpAny_mono h₂ (fun ok s₃ h₃=>?_) fun _ _ h'=>h'.elim)) fun _ _ h'=>h'.elim)
    cases ok with
    | true=>
      rw [if_pos rfl] at h₃
      simp only [if_true]
      exact wpAny_bind (wpAny_bind (wpAny_mono h₃ (fun x s₄ h₄=>wpAny_bind (wpAny_mono h₄ (fun _ s₅ h₅=>wpAny_pure (wpAny_pure ⟨rfl,h₅⟩)) fun _ _ h'=>h'.elim)) fun _ _ h'=>h'.elim))
    | false=>
      rw [if_neg Bool.false_ne_true] at h₃
      simp only [Bool.false_eq_true,if_false]
      exact wpAny_pure ⟨rfl,h₃⟩
noncomputable def tYes:TT:=fun _ H Q=>Q true H
noncomputable def PIfs (X:Cx) (ifs:List Expr) (t:TT):Prop:=
  ∀ (pins:List (Addr×Obj)) (s:Shared) (σ:St) (H:Hp) (Q:Bool→Hp→Prop),Inv X pins σ H s→t σ H Q→
    wpAny (model X.prog X.w) X.A (forIn ifs true fun c r=>if r=true then do let ok ← isTrue c X.env (eval c X.env); pure (ForInStep.yield ok) else pure (ForInStep.yield r)) (TP X pins σ Q) X.xe s
theorem pifs_nil {X:Cx}:PIfs X [] tYes:=fun _ _ _ H _ I h=>wpAny_pure ⟨H,I,h⟩
theorem pifs_one {X:Cx} {c:Expr} {t:TT} (h:PT X c t):PIfs X [c] t:=fun pins s σ H Q I q=>wpAny_tests_one (h pins s σ H Q I q)
noncomputable def tComp (own:Nat) (ix:List Nat) (wi:TI) (g:TG) (tc:TT) (te:TE):TE:=fun σ H Q=>wi σ H fun J H1=>∀ acc,H1 acc=none→∃ W:Nat→Nat→List V→Hp→Prop,
  (∃ m,W 0 m [] (upd H1 acc (.lst [])))∧∀ i m ys H,W i m ys H→
    (J.stop i H∧Q (.ref acc) H)∨(J.go i H∧∃ N:List V→Hp→Prop,(∀ ys' H',N ys' H'→∃ m',m' < m∧W (i + 1) m' ys' H')∧∀ x H',J.yld i H x H'→g x (capSt own ix σ) H' fun σ2 H2=>
      (σ2.length=own + ix.length∧∀ (j:Nat) v,(capSt own ix σ)[j]?=some (some v)→σ2[j]?=some (some v)) ∧
      tc σ2 H2 fun ok H3=>if ok=true then te σ2 H3 fun y H4=>H4 acc=some (.lst ys)∧ys.length < sizeLine∧N (ys++[y]) (upd H4 acc (.lst (ys++[y]))) else N ys H3)
section
variable {X:Cx} {elt tg iter:Expr} {ifs:List Expr} {scope:Scope} {pos:Pos} {N:List Str} {own:Nat} {ix:List Nat} {wi:TI} {g:TG} {tc:TT} {te:TE}
theorem comp_block {pins:List (Addr×Obj)} {σ:St} {s:Shared} {Q:VK} {itv:Value} {RR:Value→Addr→Result→Shared→Prop} {E:Value→Shared→Prop} (hcalm:X.calm=true) (b:BlkScope X scope) (cp:Caps X scope N own ix)
    (hg:∀ s H fp pins,PG (blk X scope N s H fp pins) tg g) (hc:∀ s H fp pins,PIfs (blk X scope N s H fp pins) ifs tc) (he:∀ s H fp pins,PE (blk X scope N s H fp pins) elt te)
    (hp:PIE X pins σ tg (fun J H1=>∀ acc,H1 acc=none→∃ W:Nat→Nat→List V→Hp→Prop,
      (∃ m,W 0 m [] (upd H1 acc (.lst [])))∧∀ i m ys H,W i m ys H→
        (J.stop i H∧Q (.ref acc) H)∨(J.go i H∧∃ N:List V→Hp→Prop,(∀ ys' H',N ys' H'→∃ m',m' < m∧W (i + 1) m' ys' H')∧∀ x H',J.yld i H x H'→g x (capSt own ix σ) H' fun σ2 H2=>
          (σ2.length=own + ix.length∧∀ (j:Nat) v,(capSt own ix σ)[j]?=some (some v)→σ2[j]?=some (some v)) ∧
          tc σ2 H2 fun ok H3=>if ok=true then te σ2 H3 fun y H4=>H4 acc=some (.lst ys)∧ys.length < sizeLine∧N (ys++[y]) (upd H4 acc (.lst (ys++[y]))) else N ys H3)) itv s)
    (hR:∀ (s3:Shared) (H3:Hp) (fp:List Addr) (acc:Addr) (σ':St) (H':Hp) (s':Shared),Inv X pins σ H3 s3→(∀ a∈fp,FpOk X pins H3 a)→Inv (blk X scope N s3 H3 fp pins) [] σ' H' s'→Q (.ref acc) H'→RR (.ref acc) s3.heap.objs.size (.ok .next) s') :
    wpAny (model X.prog X.w) X.A (newList []) (fun acc s₃=>wpAny (model X.prog X.w) X.A (newFunctionEnv scope X.env.globals (closeL X.env.cells scope.names []) [] X.env.qual none .none (some X.env)) (fun cenv s₄=>
      codeAny (model X.prog X.w) X.A (.compStart (.ListComp elt [⟨tg,iter,ifs,0⟩] scope pos) 0 itv acc { cenv with scope:=relabel scope X.env }) (RR acc cenv.locals) s₄) E s₃) E s:=by
  obtain ⟨it,fp,tn,J,H1,rfl,I1,T,st1,f1,hacc⟩:=hp
  refine wpAny_newObj_type ?_
  -- the list
  have I3:Inv X pins σ (upd H1 s.heap.objs.size (.lst [])) { s with heap:=s.heap.push { cls:=.type "list",dict:=none,data:=.seq ([]:List Value).toArray } }:=I1.lnew (ys:=[]) (its:=[]) .nil (Nat.zero_le _)
  generalize hs3:({ s with heap:=s.heap.push { cls:=.type "list",dict:=none,data:=.seq ([]:List Value).toArray } }:Shared)=s3 at I3 ⊢
  have kp3:∀ a o,s.heap.get? a=some o→s3.heap.get? a=some o:=fun a o e=>by rw [← hs3]; exact Heap.get?_push_of_some _ e
  have st3:tn 0 s3.heap:=T.keep _ _ _ st1 fun a _ o e=>kp3 a o e
  have lt1:∀ a∈fp,a < s.heap.objs.size:=fun a ha=>by obtain ⟨o,e,_⟩:=T.obj _ _ st1 a ha; exact Heap.lt_size e
  have f3:∀ a∈fp,FpOk X pins (upd H1 s.heap.objs.size (.lst [])) a:=fun a ha=>⟨by rw [upd_ne (Nat.ne_of_lt (lt1 a ha))]; exact (f1 a ha).1,(f1 a ha).2⟩
  have lt3:∀ a∈fp,a < s3.heap.objs.size:=fun a ha=>by obtain ⟨o,e,_⟩:=T.obj _ _ st3 a ha; exact Heap.lt_size e
  obtain ⟨W,⟨m0,w0⟩,turn⟩:=hacc s.heap.objs.size I1.fresh
  generalize hH3:upd H1 s.heap.objs.size (.lst [])=H3 at I3 f3 w0
  generalize hacc':s.heap.objs.size=acc at w0 turn ⊢
  refine newEnv_blk _ fun cenv hc'=>?_
  subst hc'
  have J0:=blk_start (N:=N) (fp:=fp) b cp I3 f3 lt3
  have st4:tn 0 (pushCells (s3.heap.push { cls:=.type "dict",data:=.dict #[] }) scope.names):=T.keep _ _ _ st3 fun a _ o e=>pushCells_keeps _ _ a o (Heap.get?_push_of_some _ e)
  generalize hs4:({ s3 with heap:=pushCells (s3.heap.push { cls:=.type "dict",data:=.dict #[] }) scope.names }:Shared)=s4 at J0 ⊢
  have st4':tn 0 s4.heap:=by rw [← hs4]; exact st4
  -- the loop
  have loop:codeAny (model X.prog X.w) X.A (.compLoop (.ListComp elt [⟨tg,iter,ifs,0⟩] scope pos) 0 (.ref it) (.ref acc) (blkEnv X.env scope s3.heap.objs.size)) (RR (.ref acc) s3.heap.objs.size) s4:=by
    refine comp_loop (fun n s'=>∃ i ys H',Inv (blk X scope N s3 H3 fp pins) [] (capSt own ix σ) H' s'∧tn i s'.heap∧(∀ a∈fp,H' a=none)∧W i n ys H') ?_ m0 ⟨0,[],H3,J0,st4',fun a ha=>(f3 a ha).1,w0⟩
    rintro n s5 ⟨i,ys,H5,J5,st5,fr5,w5⟩
    have fp5:=blk_fp (pl:=[]) (N:=N) b I3 f3 lt3 fr5
    rcases turn i n ys H5 w5 with ⟨stop,q⟩ | ⟨go,NN,hN,step⟩
    · refine thn (T.done (blk X scope N s3 H3 fp pins) rfl rfl rfl hcalm i [] s5 _ H5 _ J5 fp5 st5 stop) fun r s6 ⟨hr,J6⟩=>?_
      subst hr
      exact hR s3 H3 fp acc _ H5 s6 I3 f3 J6 q
    · refine thn (T.item (blk X scope N s3 H3 fp pins) rfl rfl rfl hcalm i [] s5 _ H5 _ J5 fp5 st5 go) fun r s6 ⟨u,hr,h6⟩=>?_
      subst hr
      refine thn h6 fun _ s7 hh_=>?_
      obtain ⟨x,H7,J7,r7,y7,st7,fr7⟩:=hh_
      have fp7:=blk_fp (pl:=[]) (N:=N) b I3 f3 lt3 fr7
      have J7':=J7.pinned fp7 (T.obj _ _ st7)
      have back:∀ {σ8:St} {H8:Hp} {s8:Shared} {zs:List V},Inv (blk X scope N s3 H3 fp pins) ([]++pinsAt fp s7.heap) σ8 H8 s8→(σ8.length=own + ix.length∧∀ (j:Nat) v,(capSt own ix σ)[j]?=some (some v)→σ8[j]?=some (some v))→NN zs H8→
          ∃ m,m < n∧∃ i ys H',Inv (blk X scope N s3 H3 fp pins) [] (capSt own ix σ) H' s8∧tn i s8.heap∧(∀ a∈fp,H' a=none)∧W i m ys H':=fun {σ8 H8 s8 zs} J8 hw n8=>by
        obtain ⟨m',hm,w8⟩:=hN zs H8 n8
        refine ⟨m',hm,i + 1,zs,H8,(J8.unpinned).weak (by rw [capSt_len,hw.1]) hw.2,T.keep _ _ _ st7 fun a ha o e=>(J8.pin (a,o) (List.mem_append_right _ (List.mem_append_right _ (mem_pinsAt ha e)))).1,fun a ha=>?_,w8⟩
        obtain ⟨o,e,d⟩:=T.obj _ _ st7 a ha
        exact (J8.pin (a,o) (List.mem_append_right _ (List.mem_append_right _ (mem_pinsAt ha e)))).2.1
      refine thn (hg s3 H3 fp pins _ s7 _ H7 x u _ J7' r7 (step x H7 y7)) fun _ s8 hh_=>?_
      obtain ⟨σ8,H8,J8,hw,q8⟩:=hh_
      refine thn (hc s3 H3 fp pins _ s8 σ8 H8 _ J8 q8) fun ok s9 hh_=>?_
      obtain ⟨H9,J9,q9⟩:=hh_
      cases ok with
      | false=>
        rw [if_neg Bool.false_ne_true] at q9 ⊢
        exact back J9 hw q9
      | true=>
        rw [if_pos rfl] at q9 ⊢
        refine thn (he s3 H3 fp pins _ s9 σ8 H9 _ J9 q9) fun y s10 hh_=>?_
        obtain ⟨z,H10,J10,rz,e10,hlt,n10⟩:=hh_
        refine thn (mt_append (X:=blk X scope N s3 H3 fp pins) _ s10 σ8 H10 (.ref acc) [z] (.ref acc) [y] (fun v H'=>v=.non∧H'=upd H10 acc (.lst (ys++[z]))) J10 rfl (.cons rz .nil) ⟨acc,ys,z,rfl,rfl,e10,hlt,rfl,rfl⟩) fun _ s11 hh_=>?_
        obtain ⟨_,H11,J11,_,_,e11⟩:=hh_
        subst e11
        exact back J11 hw n10
  subst hs4
  exact codeAny_compStart_list loop (T.self _ _ _ _ _ st4' loop)
theorem pe_comp (hcalm:X.calm=true) (b:BlkScope X scope) (cp:Caps X scope N own ix) (hi:PI X tg iter wi)
    (hg:∀ s H fp pins,PG (blk X scope N s H fp pins) tg g) (hc:∀ s H fp pins,PIfs (blk X scope N s H fp pins) ifs tc) (he:∀ s H fp pins,PE (blk X scope N s H fp pins) elt te)
    (hnames:∀ y∈scope.names,y.2=.local→scope.names.lookup y.1=some .local:=by decide)
    (hs:∀ x,foldedSetIterable iter X.env x=pure x:=by intro _; rfl):PE X (.ListComp elt [⟨tg,iter,ifs,0⟩] scope pos) (tComp own ix wi g tc te):=by
  intro pins s σ H Q I h
  rw [eval_ListComp]
  refine wpAny_comprehension_free (use:=none) rfl hs (closure_eq (b.cl I.ok)) b.kind hnames (thn (hi pins s σ H _ I h) fun v s1 h1=>thn h1 fun itv s2 h2=>?_)
  refine comp_block (RR:=fun acc C=>compPost (model X.prog X.w) X.A X.xe none (EP X pins σ Q) acc C) hcalm b cp hg hc he h2 ?_
  intro s3 H3 fp acc σ' H' s' I3 f3 J q
  obtain ⟨m,hn,_⟩:=id J.loc
  exact ⟨m,hn,fun h' hs'=>⟨.ref acc,H',blk_exit I3 f3 J hs',rfl,q⟩⟩
theorem ps_setComp {i:Nat} {y:Str} {py spos:Pos} (hcalm:X.calm=true) (hN:X.N.Nodup) (hiN:X.N[i]?=some y) (hx:Loc X.env.scope y) (b:BlkScope X scope) (cp:Caps X scope N own ix) (hi:PI X tg iter wi)
    (hg:∀ s H fp pins,PG (blk X scope N s H fp pins) tg g) (hc:∀ s H fp pins,PIfs (blk X scope N s H fp pins) ifs tc) (he:∀ s H fp pins,PE (blk X scope N s H fp pins) elt te)
    (hsw:swapsWith (.ListComp elt [⟨tg,iter,ifs,0⟩] scope pos) (some (.Name y py)) spos.line X.env=pure true:=by rfl)
    (hnames:∀ y∈scope.names,y.2=.local→scope.names.lookup y.1=some .local:=by decide)
    (hs:∀ x,foldedSetIterable iter X.env x=pure x:=by intro _; rfl)
    (hf:X.fn y=true∨X.env.scope.names.lookup y=some .local:=by first | exact .inl rfl | exact .inr rfl | assumption) :
    PS X (.Assign [.Name y py] (.ListComp elt [⟨tg,iter,ifs,0⟩] scope pos) spos) (tAsg (tComp own ix wi g tc te) (gName i)):=by
  intro pins s σ H D I h
  rw [exec_Assign_Name_used _ _ _ _ hsw]
  refine wpAny_bind (wpAny_standAt (wpAny_bind ?_))
  show wpAny _ X.A (do let _ ← comprehension (.ListComp elt [⟨tg,iter,ifs,0⟩] scope pos) scope X.env _ (newList []) false (eval iter X.env) (some (assign (.Name y py) X.env))) _ _ s
  refine wpAny_bind (wpAny_mono (wpAny_comprehension_free (use:=some (assign (.Name y py) X.env)) (Q:=fun _ s'=>SP X pins D .next s') rfl hs (closure_eq (b.cl I.ok)) b.kind hnames
    (thn (hi pins s σ H _ I h) fun v s1 h1=>thn h1 fun itv s2 h2=>?_)) (fun _ s' hq=>wpAny_pure (wpAny_pure hq)) fun _ _ e=>e)
  refine comp_block (Q:=fun x H1=>gName i x σ H1 D.nx) (RR:=fun acc C=>compPost (model X.prog X.w) X.A X.xe (some (assign (.Name y py) X.env)) (fun _ s'=>SP X pins D .next s') acc C) hcalm b cp hg hc he h2 ?_
  intro s3 H3 fp acc σ' H' s' I3 f3 J q
  obtain ⟨m,hn,_⟩:=id J.loc
  have hn:s'.heap.Ns s3.heap.objs.size m:=hn
  have I':Inv X pins σ H' s':=blk_exit I3 f3 J (Heap.SameBut.refl ..)
  show wpAny _ X.A (assign (.Name y py) X.env (.ref acc)) _ _ s'
  refine wpAny_assign_Name (store_ok2 (v:=.ref acc) I' hN hiN hx rfl (fun s'' I'' hh_=>?_) hf)
  obtain ⟨a,hsb,ha⟩:=hh_
  have hne:s3.heap.objs.size≠a:=by
    rcases ha with ha | ha
    · rw [ha]; exact Nat.ne_of_gt I3.lt
    · obtain ⟨v,z⟩:=I3.cell y a ha
      exact Nat.ne_of_gt z.lt
  refine ⟨m,hn.sameBut hsb hne,fun h' hs'=>?_⟩
  refine ⟨σ.set i (some (.ref acc)),H',?_,q⟩
  exact I''.turned (h':=h') (t':=s''.toks) (it:=s3.heap.objs.size) (fun c o hc e=>(hs'.2 c hc).trans e) J.free (Nat.ne_of_gt I3.lt) (.inr I3.sz) (fun x c e=>by obtain ⟨v,z⟩:=I3.cell x c e; exact Nat.ne_of_lt z.lt) fun p hp=>Nat.ne_of_lt (Heap.lt_size (I3.pin p hp).1)
end
inductive D where
  | non | bl (b:Bool) | int (i:Int) | str (x:Str)
  | tup (xs:List D) | lst (xs:List D)
  | dT (kvs:List (List Key×D)) | dK (kvs:List (Key×D))
  | ins (C:Addr) (fs:List (Str×D))
mutual
inductive Rep (K:PySem.W.Frag) (H:Hp):V→D→Prop
  | non:Rep K H .non .non
  | bl {b:Bool}:Rep K H (.bl b) (.bl b)
  | int {i:Int}:Rep K H (.int i) (.int i)
  | str {x:Str}:Rep K H (.str x) (.str x)
  | tup {a:Addr} {vs:List V} {ds:List D}:H a=some (.tup vs)→Reps K H vs ds→Rep K H (.ref a) (.tup ds)
  | lst {a:Addr} {vs:List V} {ds:List D}:SqL K H a vs→Reps K H vs ds→Rep K H (.ref a) (.lst ds)
  | dT {a:Addr} {vs:List (List Key×V)} {ds:List (List Key×D)}:H a=some (.dT vs)→RepsT K H vs ds→Rep K H (.ref a) (.dT ds)
  | dK {a:Addr} {vs:List (Key×V)} {ds:List (Key×D)}:H a=some (.dK vs)→RepsK K H vs ds→Rep K H (.ref a) (.dK ds)
  | ins {a C dx:Addr} {vs:List (Str×V)} {ds:List (Str×D)}:H a=some (.ins C dx vs)→RepsF K H vs ds→Rep K H (.ref a) (.ins C ds)
inductive Reps (K:PySem.W.Frag) (H:Hp):List V→List D→Prop
  | nil:Reps K H [] []
  | cons {v:V} {d:D} {vs:List V} {ds:List D}:Rep K H v d→Reps K H vs ds→Reps K H (v::vs) (d::ds)
inductive RepsT (K:PySem.W.Frag) (H:Hp):List (List Key×V)→List (List Key×D)→Prop
  | nil:RepsT K H [] []
  | cons {k:List Key} {v:V} {d:D} {vs:List (List Key×V)} {ds:List (List Key×D)}:Rep K H v d→RepsT K H vs ds→RepsT K H ((k,v)::vs) ((k,d)::ds)
inductive RepsK (K:PySem.W.Frag) (H:Hp):List (Key×V)→List (Key×D)→Prop
  | nil:RepsK K H [] []
  | cons {k:Key} {v:V} {d:D} {vs:List (Key×V)} {ds:List (Key×D)}:Rep K H v d→RepsK K H vs ds→RepsK K H ((k,v)::vs) ((k,d)::ds)
inductive RepsF (K:PySem.W.Frag) (H:Hp):List (Str×V)→List (Str×D)→Prop
  | nil:RepsF K H [] []
  | cons {k:Str} {v:V} {d:D} {vs:List (Str×V)} {ds:List (Str×D)}:Rep K H v d→RepsF K H vs ds→RepsF K H ((k,v)::vs) ((k,d)::ds)
end
section
variable {K:PySem.W.Frag} {H H':Hp}
theorem Rep.same (e:Same H H') {v:V} {d:D} (h:Rep K H v d):Rep K H' v d:=
  Rep.rec (motive_1:=fun v d _=>Rep K H' v d) (motive_2:=fun v d _=>Reps K H' v d) (motive_3:=fun v d _=>RepsT K H' v d) (motive_4:=fun v d _=>RepsK K H' v d) (motive_5:=fun v d _=>RepsF K H' v d) .non .bl .int .str (fun h _ i=>.tup (e _ _ h) i) (fun h _ i=>.lst (e.seq h) i) (fun h _ i=>.dT (e _ _ h) i) (fun h _ i=>.dK (e _ _ h) i) (fun h _ i=>.ins (e _ _ h) i) .nil (fun _ _ a b=>.cons a b) .nil (fun _ _ a b=>.cons a b) .nil (fun _ _ a b=>.cons a b) .nil (fun _ _ a b=>.cons a b) h
theorem Reps.same (e:Same H H') {v:List V} {d:List D} (h:Reps K H v d):Reps K H' v d:=
  Reps.rec (motive_1:=fun v d _=>Rep K H' v d) (motive_2:=fun v d _=>Reps K H' v d) (motive_3:=fun v d _=>RepsT K H' v d) (motive_4:=fun v d _=>RepsK K H' v d) (motive_5:=fun v d _=>RepsF K H' v d) .non .bl .int .str (fun h _ i=>.tup (e _ _ h) i) (fun h _ i=>.lst (e.seq h) i) (fun h _ i=>.dT (e _ _ h) i) (fun h _ i=>.dK (e _ _ h) i) (fun h _ i=>.ins (e _ _ h) i) .nil (fun _ _ a b=>.cons a b) .nil (fun _ _ a b=>.cons a b) .nil (fun _ _ a b=>.cons a b) .nil (fun _ _ a b=>.cons a b) h
theorem RepsT.same (e:Same H H') {v:List (List Key×V)} {d:List (List Key×D)} (h:RepsT K H v d):RepsT K H' v d:=
  RepsT.rec (motive_1:=fun v d _=>Rep K H' v d) (motive_2:=fun v d _=>Reps K H' v d) (motive_3:=fun v d _=>RepsT K H' v d) (motive_4:=fun v d _=>RepsK K H' v d) (motive_5:=fun v d _=>RepsF K H' v d) .non .bl .int .str (fun h _ i=>.tup (e _ _ h) i) (fun h _ i=>.lst (e.seq h) i) (fun h _ i=>.dT (e _ _ h) i) (fun h _ i=>.dK (e _ _ h) i) (fun h _ i=>.ins (e _ _ h) i) .nil (fun _ _ a b=>.cons a b) .nil (fun _ _ a b=>.cons a b) .nil (fun _ _ a b=>.cons a b) .nil (fun _ _ a b=>.cons a b) h
theorem RepsK.same (e:Same H H') {v:List (Key×V)} {d:List (Key×D)} (h:RepsK K H v d):RepsK K H' v d:=
  RepsK.rec (motive_1:=fun v d _=>Rep K H' v d) (motive_2:=fun v d _=>Reps K H' v d) (motive_3:=fun v d _=>RepsT K H' v d) (motive_4:=fun v d _=>RepsK K H' v d) (motive_5:=fun v d _=>RepsF K H' v d) .non .bl .int .str (fun h _ i=>.tup (e _ _ h) i) (fun h _ i=>.lst (e.seq h) i) (fun h _ i=>.dT (e _ _ h) i) (fun h _ i=>.dK (e _ _ h) i) (fun h _ i=>.ins (e _ _ h) i) .nil (fun _ _ a b=>.cons a b) .nil (fun _ _ a b=>.cons a b) .nil (fun _ _ a b=>.cons a b) .nil (fun _ _ a b=>.cons a b) h
theorem RepsF.same (e:Same H H') {v:List (Str×V)} {d:List (Str×D)} (h:RepsF K H v d):RepsF K H' v d:=
  RepsF.rec (motive_1:=fun v d _=>Rep K H' v d) (motive_2:=fun v d _=>Reps K H' v d) (motive_3:=fun v d _=>RepsT K H' v d) (motive_4:=fun v d _=>RepsK K H' v d) (motive_5:=fun v d _=>RepsF K H' v d) .non .bl .int .str (fun h _ i=>.tup (e _ _ h) i) (fun h _ i=>.lst (e.seq h) i) (fun h _ i=>.dT (e _ _ h) i) (fun h _ i=>.dK (e _ _ h) i) (fun h _ i=>.ins (e _ _ h) i) .nil (fun _ _ a b=>.cons a b) .nil (fun _ _ a b=>.cons a b) .nil (fun _ _ a b=>.cons a b) .nil (fun _ _ a b=>.cons a b) h
end
section
variable {K:PySem.W.Frag} {H H':Hp}
theorem Reps.ind {M:List V→List D→Prop} (n:M [] []) (c:∀ {v:V} {d:D} {vs:List V} {ds:List D},Rep K H v d→Reps K H vs ds→M vs ds→M (v::vs) (d::ds)) {vs:List V} {ds:List D} (h:Reps K H vs ds):M vs ds:=
  Reps.rec (motive_1:=fun _ _ _=>True) (motive_2:=fun vs ds _=>M vs ds) (motive_3:=fun _ _ _=>True) (motive_4:=fun _ _ _=>True) (motive_5:=fun _ _ _=>True) trivial trivial trivial trivial (fun _ _ _=>trivial) (fun _ _ _=>trivial) (fun _ _ _=>trivial) (fun _ _ _=>trivial) (fun _ _ _=>trivial) n (fun h q _ ih=>c h q ih) trivial (fun _ _ _ _=>trivial) trivial (fun _ _ _ _=>trivial) trivial (fun _ _ _ _=>trivial) h
theorem RepsT.ind {M:List (List Key×V)→List (List Key×D)→Prop} (n:M [] []) (c:∀ {k:List Key} {v:V} {d:D} {vs:List (List Key×V)} {ds:List (List Key×D)},Rep K H v d→RepsT K H vs ds→M vs ds→M ((k,v)::vs) ((k,d)::ds)) {vs:List (List Key×V)} {ds:List (List Key×D)} (h:RepsT K H vs ds):M vs ds:=
  RepsT.rec (motive_1:=fun _ _ _=>True) (motive_2:=fun _ _ _=>True) (motive_3:=fun vs ds _=>M vs ds) (motive_4:=fun _ _ _=>True) (motive_5:=fun _ _ _=>True) trivial trivial trivial trivial (fun _ _ _=>trivial) (fun _ _ _=>trivial) (fun _ _ _=>trivial) (fun _ _ _=>trivial) (fun _ _ _=>trivial) trivial (fun _ _ _ _=>trivial) n (fun h q _ ih=>c h q ih) trivial (fun _ _ _ _=>trivial) trivial (fun _ _ _ _=>trivial) h
theorem RepsF.ind {M:List (Str×V)→List (Str×D)→Prop} (n:M [] []) (c:∀ {k:Str} {v:V} {d:D} {vs:List (Str×V)} {ds:List (Str×D)},Rep K H v d→RepsF K H vs ds→M vs ds→M ((k,v)::vs) ((k,d)::ds)) {vs:List (Str×V)} {ds:List (Str×D)} (h:RepsF K H vs ds):M vs ds:=
  RepsF.rec (motive_1:=fun _ _ _=>True) (motive_2:=fun _ _ _=>True) (motive_3:=fun _ _ _=>True) (motive_4:=fun _ _ _=>True) (motive_5:=fun vs ds _=>M vs ds) trivial trivial trivial trivial (fun _ _ _=>trivial) (fun _ _ _=>trivial) (fun _ _ _=>trivial) (fun _ _ _=>trivial) (fun _ _ _=>trivial) trivial (fun _ _ _ _=>trivial) trivial (fun _ _ _ _=>trivial) trivial (fun _ _ _ _=>trivial) n (fun h q _ ih=>c h q ih) h
theorem Reps.length {vs:List V} {ds:List D} (h:Reps K H vs ds):vs.length=ds.length:=Reps.ind (M:=fun vs ds=>vs.length=ds.length) rfl (fun _ _ ih=>congrArg Nat.succ ih) h
theorem Reps.get {vs:List V} {ds:List D} {i:Nat} {d:D} (h:Reps K H vs ds):ds[i]?=some d→∃ v,vs[i]?=some v∧Rep K H v d:=
  Reps.ind (M:=fun vs ds=>∀ i:Nat,ds[i]?=some d→∃ v,vs[i]?=some v∧Rep K H v d) (fun _ e=>nomatch e) (fun r _ ih i e=>by
    cases i with
    | zero=>obtain rfl:=Option.some.inj e; exact ⟨_,rfl,r⟩
    | succ i=>exact ih i e) h i
theorem Reps.getV {vs:List V} {ds:List D} {i:Nat} {v:V} (h:Reps K H vs ds):vs[i]?=some v→∃ d,ds[i]?=some d∧Rep K H v d:=
  Reps.ind (M:=fun vs ds=>∀ i:Nat,vs[i]?=some v→∃ d,ds[i]?=some d∧Rep K H v d) (fun _ e=>nomatch e) (fun r _ ih i e=>by
    cases i with
    | zero=>obtain rfl:=Option.some.inj e; exact ⟨_,rfl,r⟩
    | succ i=>exact ih i e) h i
theorem Reps.append {vs ws:List V} {ds es:List D} (h:Reps K H vs ds) (s:Reps K H ws es):Reps K H (vs++ws) (ds++es):=Reps.ind (M:=fun vs ds=>Reps K H (vs++ws) (ds++es)) s (fun r _ ih=>.cons r ih) h
theorem Reps.take {vs:List V} {ds:List D} (n:Nat) (h:Reps K H vs ds):Reps K H (vs.take n) (ds.take n):=Reps.ind (M:=fun vs ds=>∀ n,Reps K H (vs.take n) (ds.take n)) (fun n=>by cases n <;> exact .nil) (fun r _ ih n=>by
    cases n with
    | zero=>exact .nil
    | succ n=>exact .cons r (ih n)) h n
theorem Reps.drop {vs:List V} {ds:List D} (n:Nat) (h:Reps K H vs ds):Reps K H (vs.drop n) (ds.drop n):=Reps.ind (M:=fun vs ds=>∀ n,Reps K H (vs.drop n) (ds.drop n)) (fun n=>by cases n <;> exact .nil) (fun r q ih n=>by
    cases n with
    | zero=>exact .cons r q
    | succ n=>exact ih n) h n
theorem Reps.eraseIdx {vs:List V} {ds:List D} (i:Nat) (h:Reps K H vs ds):Reps K H (vs.eraseIdx i) (ds.eraseIdx i):=Reps.ind (M:=fun vs ds=>∀ i,Reps K H (vs.eraseIdx i) (ds.eraseIdx i)) (fun _=>.nil) (fun q t ih i=>by
    cases i with
    | zero=>exact t
    | succ i=>exact .cons q (ih i)) h i
theorem Reps.one {v:V} {d:D} (r:Rep K H v d):Reps K H [v] [d]:=.cons r .nil
end
inductive OD where
  | lst (ds:List D) | lst2 (dss:List (List D)) | dT (kvs:List (List Key×D)) | dK (kvs:List (Key×D)) | ins (C:Addr) (fs:List (Str×D))
noncomputable def OD.d:OD→D
  | .lst ds=>.lst ds
  | .lst2 dss=>.lst (dss.map .lst)
  | .dT kvs=>.dT kvs
  | .dK kvs=>.dK kvs
  | .ins C fs=>.ins C fs
noncomputable def OD.flat:OD→Bool
  | .lst2 _=>false
  | _=>true
inductive All2 {α β:Type} (R:α→β→Prop):List α→List β→Prop
  | nil:All2 R [] []
  | cons {a:α} {b:β} {as:List α} {bs:List β}:R a b→All2 R as bs→All2 R (a::as) (b::bs)
theorem All2.imp {α β:Type} {R S:α→β→Prop} (f:∀ a b,R a b→S a b) {as:List α} {bs:List β} (h:All2 R as bs):All2 S as bs:=by
  induction h with
  | nil=>exact .nil
  | cons h _ ih=>exact .cons (f _ _ h) ih
noncomputable def ORep1 (K:PySem.W.Frag) (F:Hp):OD→HO→Prop
  | .lst ds,.lst vs=>Reps K F vs ds
  | .dT ds,.dT vs=>RepsT K F vs ds
  | .dK ds,.dK vs=>RepsK K F vs ds
  | .ins C fs,.ins C' _ vs=>C=C'∧RepsF K F vs fs
  | _,_=>False
noncomputable def ORep (K:PySem.W.Frag) (F H:Hp) (ow:Addr→Prop):OD→Addr→Prop
  | .lst2 dss,a=>ow a∧∃ bs,H a=some (.lst (bs.map .ref))∧(a::bs).Nodup∧All2 (fun b ds=>ow b∧∃ u,H b=some u∧ORep1 K F (.lst ds) u) bs dss
  | o,a=>ow a∧∃ u,H a=some u∧ORep1 K F o u
theorem ORep1.same {K:PySem.W.Frag} {F F':Hp} (e:Same F F') {o:OD} {u:HO} (h:ORep1 K F o u):ORep1 K F' o u:=by
  cases o <;> cases u <;> first | exact h.elim | exact Reps.same e h | exact RepsT.same e h | exact RepsK.same e h | exact ⟨h.1,RepsF.same e h.2⟩
theorem ORep.flat {K:PySem.W.Frag} {F H:Hp} {ow:Addr→Prop} {o:OD} {a:Addr} (f:o.flat=true):ORep K F H ow o a↔ow a∧∃ u,H a=some u∧ORep1 K F o u:=by
  cases o <;> first | exact Iff.rfl | cases f
theorem ORep.mono {K:PySem.W.Frag} {F F' H H':Hp} {ow ow':Addr→Prop} {o:OD} {a:Addr} (e:Same F F') (k:∀ b u,ow b→H b=some u→H' b=some u∧ow' b) (h:ORep K F H ow o a):ORep K F' H' ow' o a:=by
  by_cases f:o.flat=true
  · obtain ⟨h1,u,h2,h3⟩:=(ORep.flat f).mp h
    obtain ⟨k1,k2⟩:=k a u h1 h2
    exact (ORep.flat f).mpr ⟨k2,u,k1,h3.same e⟩
  · cases o with
    | lst2 dss=>
      obtain ⟨h1,bs,h2,h3,h4⟩:=h
      obtain ⟨k1,k2⟩:=k a _ h1 h2
      exact ⟨k2,bs,k1,h3,h4.imp fun b ds ⟨q1,u,q2,q3⟩=>by obtain ⟨c1,c2⟩:=k b u q1 q2; exact ⟨c2,u,c1,q3.same e⟩⟩
    | _=>exact absurd rfl f
theorem ORep1.rep {K:PySem.W.Frag} {F H:Hp} {o:OD} {u:HO} {a:Addr} (f:o.flat=true) (h:ORep1 K F o u) (hH:H a=some u) (e:Same F H):Rep K H (.ref a) o.d:=by
  cases o with
  | lst ds=>cases u with | lst vs=>exact .lst (SqL.of hH) (Reps.same e h) | _=>exact h.elim
  | dT ds=>cases u with | dT vs=>exact .dT hH (RepsT.same e h) | _=>exact h.elim
  | dK ds=>cases u with | dK vs=>exact .dK hH (RepsK.same e h) | _=>exact h.elim
  | ins C fs=>cases u with | ins C' dx vs=>(obtain ⟨rfl,h⟩:=h; exact .ins hH (RepsF.same e h)) | _=>exact h.elim
  | lst2 _=>cases f
theorem ORep.rep {K:PySem.W.Frag} {F H G:Hp} {ow:Addr→Prop} {o:OD} {a:Addr} (h:ORep K F H ow o a) (e:Same F G) (k:∀ b u,ow b→H b=some u→G b=some u):Rep K G (.ref a) o.d:=by
  by_cases f:o.flat=true
  · obtain ⟨h1,u,h2,h3⟩:=(ORep.flat f).mp h
    exact h3.rep f (k a u h1 h2) e
  · cases o with
    | lst2 dss=>
      obtain ⟨h1,bs,h2,h3,h4⟩:=h
      refine .lst (SqL.of (k a _ h1 h2)) ?_
      clear h2 h1 h3 f
      induction h4 with
      | nil=>exact .nil
      | cons q r ih=>
        obtain ⟨q1,u,q2,q3⟩:=q
        exact .cons (q3.rep (o:=.lst _) rfl (k _ u q1 q2) e) ih
    | _=>exact absurd rfl f
inductive DV where
  | v (d:D) | own (o:OD) (t:Option Addr) | bor (o:OD)
noncomputable abbrev DF:=List (Option DV)
noncomputable def DVRep (K:PySem.W.Frag) (P F H:Hp) (ow:Addr→Prop):DV→V→Prop
  | .v d,x=>Rep K F x d
  | .own o t,x=>∃ a,x=.ref a∧ORep K F H (fun b=>F b=none∧P b=none∧ow b) o a∧∀ b,t=some b→b=a
  | .bor o,x=>∃ a,x=.ref a∧ORep K F P (fun _=>True) o a
noncomputable def anyA:Addr→Prop:=fun _=>True
structure DHp (P F H:Hp):Prop where
  sub:Same F H
  pro:Same P H
  dis:∀ a o,P a=some o→F a=none
structure DInv (K:PySem.W.Frag) (P F H:Hp) (ρ:DF) (σ:St):Prop extends DHp P F H where
  len:ρ.length=σ.length
  rep:∃ O:Addr→Option Nat,∀ (i:Nat) (x:DV),ρ[i]?=some (some x)→∃ v,σ[i]?=some (some v)∧DVRep K P F H (fun b=>O b=some i) x v
structure Evo (P F H F' H':Hp):Prop where
  ext:Same F F'
  hp:DHp P F' H'
  keep:∀ a o,H a=some o→F a=none→H' a=some o∧F' a=none
theorem Evo.same {P F H F' H':Hp} (h:DHp P F H) (e:Evo P F H F' H'):Same H H':=fun a o q=>by
  cases c:F a with
  | none=>exact (e.keep a o q c).1
  | some u=>
    have:=h.sub a u c
    rw [q] at this
    cases this
    exact e.hp.sub a o (e.ext a o c)
theorem DVRep.evo {K:PySem.W.Frag} {P F H F' H':Hp} {ow:Addr→Prop} (e:Evo P F H F' H') {x:DV} {v:V} (r:DVRep K P F H ow x v):DVRep K P F' H' ow x v:=by
  cases x with
  | v d=>exact Rep.same e.ext r
  | own o t=>
    obtain ⟨a,rfl,h,ht⟩:=r
    exact ⟨a,rfl,h.mono e.ext fun b u ⟨q1,q2,q3⟩ hb=>by (obtain ⟨k1,k2⟩:=e.keep b u hb q1; exact ⟨k1,k2,q2,q3⟩),ht⟩
  | bor o=>
    obtain ⟨a,rfl,h⟩:=r
    exact ⟨a,rfl,h.mono e.ext fun b u q hb=>⟨hb,q⟩⟩
theorem DVRep.imp {K:PySem.W.Frag} {P F H:Hp} {ow ow':Addr→Prop} (f:∀ b u,F b=none→P b=none→H b=some u→ow b→ow' b) {x:DV} {v:V} (r:DVRep K P F H ow x v):DVRep K P F H ow' x v:=by
  cases x with
  | v d=>exact r
  | own o t=>
    obtain ⟨a,rfl,h,ht⟩:=r
    exact ⟨a,rfl,h.mono (Same.refl _) fun b u ⟨q1,q2,q3⟩ hb=>⟨hb,q1,q2,f b u q1 q2 hb q3⟩,ht⟩
  | bor o=>exact r
theorem DInv.evo {K:PySem.W.Frag} {P F H F' H':Hp} {ρ:DF} {σ:St} (I:DInv K P F H ρ σ) (e:Evo P F H F' H'):DInv K P F' H' ρ σ:=
  ⟨e.hp,I.len,by obtain ⟨O,h⟩:=I.rep; exact ⟨O,fun i x hx=>by obtain ⟨v,h1,h2⟩:=h i x hx; exact ⟨v,h1,h2.evo e⟩⟩⟩
theorem DInv.at {K:PySem.W.Frag} {P F H:Hp} {ρ:DF} {σ:St} (I:DInv K P F H ρ σ) {i:Nat} {x:DV} (h:ρ[i]?=some (some x)):∃ v,σ[i]?=some (some v)∧DVRep K P F H anyA x v:=by
  obtain ⟨O,k⟩:=I.rep
  obtain ⟨v,h1,h2⟩:=k i x h
  exact ⟨v,h1,h2.imp fun _ _ _ _ _ _=>trivial⟩
theorem Evo.refl {P F H:Hp} (h:DHp P F H):Evo P F H F H:=⟨Same.refl _,h,fun _ _ a b=>⟨a,b⟩⟩
theorem Evo.trans {P F H F1 H1 F2 H2:Hp} (a:Evo P F H F1 H1) (b:Evo P F1 H1 F2 H2):Evo P F H F2 H2:=
  ⟨a.ext.trans b.ext,b.hp,fun c o h n=>by obtain ⟨h1,n1⟩:=a.keep c o h n; exact b.keep c o h1 n1⟩
theorem Evo.laid {P F H:Hp} (h:DHp P F H) {a:Addr} {o:HO} (hn:H a=none):Evo P F H (upd F a o) (upd H a o) where
  ext:=fun b u e=>by rw [upd_ne (fun z=>by subst z; rw [h.sub _ _ e] at hn; cases hn)]; exact e
  hp:=⟨fun b u e=>by
      by_cases hb:b=a
      · subst hb; rw [upd_same] at e ⊢; exact e
      · rw [upd_ne hb] at e ⊢; exact h.sub b u e,
    fun b u e=>by rw [upd_ne (fun z=>by subst z; rw [h.pro _ _ e] at hn; cases hn)]; exact h.pro b u e,
    fun b u e=>by rw [upd_ne (fun z=>by subst z; rw [h.pro _ _ e] at hn; cases hn)]; exact h.dis b u e⟩
  keep:=fun b u e n=>by
    have hb:b≠a:=fun z=>by subst z; rw [e] at hn; cases hn
    rw [upd_ne hb,upd_ne hb]; exact ⟨e,n⟩
theorem Evo.side {P F H:Hp} (h:DHp P F H) {a:Addr} {o:HO} (hn:H a=none):Evo P F H F (upd H a o) where
  ext:=Same.refl _
  hp:=⟨fun b u e=>by rw [upd_ne (fun z=>by subst z; rw [h.sub _ _ e] at hn; cases hn)]; exact h.sub b u e,
    fun b u e=>by rw [upd_ne (fun z=>by subst z; rw [h.pro _ _ e] at hn; cases hn)]; exact h.pro b u e,h.dis⟩
  keep:=fun b u e n=>by
    have hb:b≠a:=fun z=>by subst z; rw [e] at hn; cases hn
    rw [upd_ne hb]; exact ⟨e,n⟩
theorem DHp.free {P F H:Hp} (h:DHp P F H) {a:Addr} (hn:H a=none):F a=none∧P a=none:=⟨h.sub.free hn,h.pro.free hn⟩
noncomputable def RepS (K:PySem.W.Frag) (ρ:DF) (σ:St) (F:Hp) (v:V) (d:D):Prop:=
  Rep K F v d∨∃ (i:Nat) (o:OD),σ[i]?=some (some v)∧((∃ t,ρ[i]?=some (some (.own o t)))∨ρ[i]?=some (some (.bor o)))∧o.flat=true∧d=o.d
theorem RepS.same {K:PySem.W.Frag} {ρ:DF} {σ:St} {F F':Hp} {v:V} {d:D} (r:RepS K ρ σ F v d) (e:Same F F'):RepS K ρ σ F' v d:=r.imp (Rep.same e) id
theorem DInv.slot {K:PySem.W.Frag} {P F H:Hp} {ρ:DF} {σ:St} (I:DInv K P F H ρ σ) {i:Nat} {o:OD} {v:V} (hv:σ[i]?=some (some v)) (h:(∃ t,ρ[i]?=some (some (.own o t)))∨ρ[i]?=some (some (.bor o))):∃ a,v=.ref a∧ORep K F H (fun b=>F b=none) o a:=by
  rcases h with ⟨t,h⟩ | h
  · obtain ⟨v',h1,a,rfl,h2,_⟩:=I.at h
    rw [hv] at h1; cases h1
    exact ⟨a,rfl,h2.mono (Same.refl _) fun b u q hb=>⟨hb,q.1⟩⟩
  · obtain ⟨v',h1,a,rfl,h2⟩:=I.at h
    rw [hv] at h1; cases h1
    exact ⟨a,rfl,h2.mono (Same.refl _) fun b u q hb=>⟨I.pro b u hb,I.dis b u hb⟩⟩
theorem RepS.now {K:PySem.W.Frag} {P F H:Hp} {ρ:DF} {σ:St} {v:V} {d:D} (I:DInv K P F H ρ σ) (r:RepS K ρ σ F v d):Rep K H v d:=by
  rcases r with r | ⟨i,o,hi,h,_,rfl⟩
  · exact r.same I.sub
  · obtain ⟨a,rfl,h2⟩:=I.slot hi h
    exact h2.rep I.sub fun _ _ _ q=>q
noncomputable def tD (K:PySem.W.Frag) (f:DF→Option D):TE:=fun σ H Q=>∃ P F ρ d,f ρ=some d∧DInv K P F H ρ σ∧∀ v F' H',Evo P F H F' H'→Rep K F' v d→Q v H'
noncomputable def tR (K:PySem.W.Frag) (f:DF→Option D):TE:=fun σ H Q=>∃ P F ρ d,f ρ=some d∧DInv K P F H ρ σ∧∀ v F' H',Evo P F H F' H'→RepS K ρ σ F' v d→Q v H'
noncomputable def tN (K:PySem.W.Frag) (f:DF→Option D):TE:=fun σ H Q=>∃ P F ρ d,f ρ=some d∧DInv K P F H ρ σ∧∀ v F' H',Evo P F H F' H'→Rep K H' v d→Q v H'
noncomputable def tB' (K:PySem.W.Frag) (f:DF→Option Bool):TT:=fun σ H Q=>∃ P F ρ b,f ρ=some b∧DInv K P F H ρ σ∧∀ F' H',Evo P F H F' H'→Q b H'
noncomputable def tL (K:PySem.W.Frag) (f:DF→Option (List D)):TA:=fun σ H Q=>∃ P F ρ ds,f ρ=some ds∧DInv K P F H ρ σ∧∀ vs F' H',Evo P F H F' H'→Reps K F' vs ds→Q vs H'
noncomputable def PDE (X:Cx) (e:Expr) (f:DF→Option D):Prop:=PE X e (tD X.K f)
noncomputable def PDR (X:Cx) (e:Expr) (f:DF→Option D):Prop:=PE X e (tR X.K f)
noncomputable def PDN (X:Cx) (e:Expr) (f:DF→Option D):Prop:=PE X e (tN X.K f)
noncomputable def PDT (X:Cx) (e:Expr) (f:DF→Option Bool):Prop:=PT X e (tB' X.K f)
noncomputable def PDA (X:Cx) (es:List Expr) (f:DF→Option (List D)):Prop:=PA X es (tL X.K f)
section
variable {X:Cx} {e a b c:Expr} {es:List Expr} {pos:Pos}
theorem PE.imp {t t':TE} (h:PE X e t) (i:∀ σ H Q,t' σ H Q→t σ H Q):PE X e t':=fun pins s σ H Q I q=>h pins s σ H Q I (i σ H Q q)
theorem PT.imp {t t':TT} (h:PT X e t) (i:∀ σ H Q,t' σ H Q→t σ H Q):PT X e t':=fun pins s σ H Q I q=>h pins s σ H Q I (i σ H Q q)
theorem PA.imp {t t':TA} (h:PA X es t) (i:∀ σ H Q,t' σ H Q→t σ H Q):PA X es t':=fun pos pins s σ H Q I q=>h pos pins s σ H Q I (i σ H Q q)
noncomputable def getV (i:Nat) (ρ:DF):Option D:=match ρ[i]? with
  | some (some (.v d))=>some d
  | _=>none
noncomputable def getR (i:Nat) (ρ:DF):Option D:=match ρ[i]? with
  | some (some (.v d))=>some d
  | some (some (.own o _))=>if o.flat=true then some o.d else none
  | some (some (.bor o))=>if o.flat=true then some o.d else none
  | _=>none
noncomputable def getN (i:Nat) (ρ:DF):Option D:=match ρ[i]? with
  | some (some (.v d))=>some d
  | some (some (.own o _))=>some o.d
  | some (some (.bor o))=>some o.d
  | _=>none
theorem getV_eq {i:Nat} {ρ:DF} {d:D} (h:getV i ρ=some d):ρ[i]?=some (some (.v d)):=by
  unfold getV at h
  split at h
  · rename_i q; cases h; exact q
  · cases h
theorem pde_of (i:Nat) (h:PE X e (tVar i)):PDE X e (getV i):=h.imp fun σ H Q=>un7 fun P F ρ d hf I k=>by
  obtain ⟨v,h1,h2⟩:=I.at (getV_eq hf)
  exact ⟨v,h1,k v F H (Evo.refl I.toDHp) h2⟩
theorem pdr_of (i:Nat) (h:PE X e (tVar i)):PDR X e (getR i):=h.imp fun σ H Q=>un7 fun P F ρ d hf I k=>by
  unfold getR at hf
  split at hf
  · rename_i d' q
    cases hf
    obtain ⟨v,h1,h2⟩:=I.at q
    exact ⟨v,h1,k v F H (Evo.refl I.toDHp) (.inl h2)⟩
  · rename_i o t q
    split at hf
    · rename_i hfl
      cases hf
      obtain ⟨v,h1,h2⟩:=I.at q
      exact ⟨v,h1,k v F H (Evo.refl I.toDHp) (.inr ⟨i,o,h1,.inl ⟨t,q⟩,hfl,rfl⟩)⟩
    · cases hf
  · rename_i o q
    split at hf
    · rename_i hfl
      cases hf
      obtain ⟨v,h1,h2⟩:=I.at q
      exact ⟨v,h1,k v F H (Evo.refl I.toDHp) (.inr ⟨i,o,h1,.inr q,hfl,rfl⟩)⟩
    · cases hf
  · cases hf
theorem pdn_of (i:Nat) (h:PE X e (tVar i)):PDN X e (getN i):=h.imp fun σ H Q=>un7 fun P F ρ d hf I k=>by
  unfold getN at hf
  split at hf
  · rename_i d' q
    cases hf
    obtain ⟨v,h1,h2⟩:=I.at q
    exact ⟨v,h1,k v F H (Evo.refl I.toDHp) (Rep.same I.sub h2)⟩
  · rename_i o t q
    cases hf
    obtain ⟨v,h1,_⟩:=I.at q
    obtain ⟨a,rfl,h2⟩:=I.slot h1 (.inl ⟨t,q⟩)
    exact ⟨_,h1,k _ F H (Evo.refl I.toDHp) (h2.rep I.sub fun _ _ _ q=>q)⟩
  · rename_i o q
    cases hf
    obtain ⟨v,h1,_⟩:=I.at q
    obtain ⟨a,rfl,h2⟩:=I.slot h1 (.inr q)
    exact ⟨_,h1,k _ F H (Evo.refl I.toDHp) (h2.rep I.sub fun _ _ _ q=>q)⟩
  · cases hf
theorem PDE.r {f:DF→Option D} (h:PDE X e f):PDR X e f:=PE.imp h fun σ H Q=>un7 fun P F ρ d hf I k=>⟨P,F,ρ,d,hf,I,fun v F' H' ev r=>k v F' H' ev (.inl r)⟩
theorem PDR.n {f:DF→Option D} (h:PDR X e f):PDN X e f:=PE.imp h fun σ H Q=>un7 fun P F ρ d hf I k=>⟨P,F,ρ,d,hf,I,fun v F' H' ev r=>k v F' H' ev (r.now (I.evo ev))⟩
theorem PDE.n {f:DF→Option D} (h:PDE X e f):PDN X e f:=h.r.n
theorem pde_c {d:D} {v:V} (h:PE X e (tC v)) (r:∀ F,Rep X.K F v d):PDE X e (fun _=>some d):=h.imp fun σ H Q=>un7 fun P F ρ d' hf I k=>by
  cases hf
  exact k v F H (Evo.refl I.toDHp) (r F)
theorem pd_int {i j p}:PDE X (.Constant (.int i) j p) (fun _=>some (.int i)):=pde_c pe_int fun _=>.int
theorem pd_bl {i j p}:PDE X (.Constant (.bool i) j p) (fun _=>some (.bl i)):=pde_c pe_bl fun _=>.bl
theorem pd_str {i j p}:PDE X (.Constant (.str i) j p) (fun _=>some (.str i)):=pde_c pe_str fun _=>.str
noncomputable def OpN2 (K:PySem.W.Frag) (r:R2) (f:D→D→Option D):Prop:=
  ∀ (P F H:Hp) (x y:V) (dx dy d:D) (Q:VK),f dx dy=some d→DHp P F H→Rep K H x dx→Rep K H y dy→(∀ v F' H',Evo P F H F' H'→Rep K F' v d→Q v H')→r x y H Q
noncomputable def d2 (f:D→D→Option D) (fa fb:DF→Option D):DF→Option D:=fun ρ=>(fa ρ).bind fun x=>(fb ρ).bind fun y=>f x y
theorem tOp_n2 {K:PySem.W.Frag} {r:R2} {f:D→D→Option D} {fa fb:DF→Option D} (ho:OpN2 K r f):∀ σ H Q,tD K (d2 f fa fb) σ H Q→tOp r (tN K fa) (tN K fb) σ H Q:=fun σ H Q=>un7 fun P F ρ d hf I k=>by
  unfold d2 at hf
  cases ha:fa ρ with
  | none=>rw [ha] at hf; cases hf
  | some dx=>
    rw [ha] at hf
    cases hb:fb ρ with
    | none=>rw [Option.bind_some,hb] at hf; cases hf
    | some dy=>
      rw [Option.bind_some,hb,Option.bind_some] at hf
      refine ⟨P,F,ρ,dx,ha,I,fun x F1 H1 e1 rx=>⟨P,F1,ρ,dy,hb,I.evo e1,fun y F2 H2 e2 ry=>?_⟩⟩
      exact ho P F2 H2 x y dx dy d Q hf e2.hp (rx.same (e2.same e1.hp)) ry fun v F3 H3 e3 rv=>k v F3 H3 ((e1.trans e2).trans e3) rv
theorem pn_cmp {op:CmpOp} {r:R2} {f:D→D→Option D} {fa fb:DF→Option D} (ho:OpR X (compareOp op) r) (hf:OpN2 X.K r f) (ha:PDN X a fa) (hb:PDN X b fb) (hm:behindInMarks op b=false):PDE X (.Compare a [op] [b] pos) (d2 f fa fb):=
  (pe_cmpR ho ha hb hm).imp (tOp_n2 hf)
noncomputable def OpD2 (K:PySem.W.Frag) (r:R2) (f:D→D→Option D):Prop:=
  ∀ (P F H:Hp) (ρ:DF) (σ:St) (x y:V) (dx dy d:D) (Q:VK),f dx dy=some d→DInv K P F H ρ σ→RepS K ρ σ F x dx→RepS K ρ σ F y dy→(∀ v F' H',Evo P F H F' H'→Rep K F' v d→Q v H')→r x y H Q
theorem tOp_d2 {K:PySem.W.Frag} {r:R2} {f:D→D→Option D} {fa fb:DF→Option D} (ho:OpD2 K r f):∀ σ H Q,tD K (d2 f fa fb) σ H Q→tOp r (tR K fa) (tR K fb) σ H Q:=fun σ H Q=>un7 fun P F ρ d hf I k=>by
  unfold d2 at hf
  cases ha:fa ρ with
  | none=>rw [ha] at hf; cases hf
  | some dx=>
    rw [ha] at hf
    cases hb:fb ρ with
    | none=>rw [Option.bind_some,hb] at hf; cases hf
    | some dy=>
      rw [Option.bind_some,hb,Option.bind_some] at hf
      refine ⟨P,F,ρ,dx,ha,I,fun x F1 H1 e1 rx=>⟨P,F1,ρ,dy,hb,I.evo e1,fun y F2 H2 e2 ry=>?_⟩⟩
      exact ho P F2 H2 ρ σ x y dx dy d Q hf ((I.evo e1).evo e2) (rx.same e2.ext) ry fun v F3 H3 e3 rv=>k v F3 H3 ((e1.trans e2).trans e3) rv
theorem pd_bin {op:Operator} {r:R2} {f:D→D→Option D} {fa fb:DF→Option D} (ho:OpR X (binaryOp op) r) (hf:OpD2 X.K r f) (ha:PDR X a fa) (hb:PDR X b fb):PDE X (.BinOp a op b pos) (d2 f fa fb):=
  (pe_op ho ha hb).imp (tOp_d2 hf)
noncomputable def asB (f:DF→Option D):DF→Option Bool:=fun ρ=>match f ρ with
  | some (.bl b)=>some b
  | _=>none
theorem asB_eq {f:DF→Option D} {ρ:DF} {b:Bool} (h:asB f ρ=some b):f ρ=some (.bl b):=by
  unfold asB at h
  split at h
  · rename_i q; cases h; exact q
  · cases h
theorem tTest_of {K:PySem.W.Frag} {t:TE} {f:DF→Option D} (h:∀ σ H Q,tD K f σ H Q→t σ H Q):∀ σ H Q,tB' K (asB f) σ H Q→tTest t σ H Q:=fun σ H Q=>un7 fun P F ρ b hf I k=>by
  refine h σ H _ ⟨P,F,ρ,.bl b,asB_eq hf,I,fun v F' H' ev r=>?_⟩
  cases r
  exact ⟨b,rfl,k F' H' ev⟩
theorem pt_cmpD {op:CmpOp} {r:R2} {f:D→D→Option D} {fa fb:DF→Option D} (ho:OpR X (compareOp op) r) (hf:OpD2 X.K r f) (ha:PDR X a fa) (hb:PDR X b fb) (hm:behindInMarks op b=false):PDT X (.Compare a [op] [b] pos) (asB (d2 f fa fb)):=
  (pt_cmpR ho ha hb hm).imp (tTest_of (tOp_d2 hf))
theorem ptn_cmp {op:CmpOp} {r:R2} {f:D→D→Option D} {fa fb:DF→Option D} (ho:OpR X (compareOp op) r) (hf:OpN2 X.K r f) (ha:PDN X a fa) (hb:PDN X b fb) (hm:behindInMarks op b=false):PDT X (.Compare a [op] [b] pos) (asB (d2 f fa fb)):=
  (pt_cmpR ho ha hb hm).imp (tTest_of (tOp_n2 hf))
theorem pt_valD {f:DF→Option D} (h:PDE X e f) (he:∀ whole,isTrue e X.env whole=(do let v ← whole; standAt e.pos; holding [v] (truthy v)):=by intro _; rfl):PDT X e (asB f):=
  (pt_val h he).imp (tTest_of (t:=tD X.K f) fun _ _ _ q=>q)
theorem rep_int {K:PySem.W.Frag} {ρ:DF} {σ:St} {F:Hp} {x:V} {i:Int} (r:RepS K ρ σ F x (.int i)):x=.int i:=by
  rcases r with r | ⟨_,o,_,_,_,z⟩
  · cases r; rfl
  · cases o <;> cases z
theorem rep_str {K:PySem.W.Frag} {ρ:DF} {σ:St} {F:Hp} {x:V} {i:Str} (r:RepS K ρ σ F x (.str i)):x=.str i:=by
  rcases r with r | ⟨_,o,_,_,_,z⟩
  · cases r; rfl
  · cases o <;> cases z
theorem rep_lst {K:PySem.W.Frag} {P F H:Hp} {ρ:DF} {σ:St} {x:V} {ds:List D} (I:DInv K P F H ρ σ) (r:RepS K ρ σ F x (.lst ds)):∃ a vs,x=.ref a∧SqL K H a vs∧Reps K F vs ds:=by
  rcases r with r | ⟨i,o,hi,h,hfl,z⟩
  · cases r with | lst h q=>exact ⟨_,_,rfl,I.sub.seq h,q⟩
  · obtain ⟨a,rfl,h2⟩:=I.slot hi h
    obtain ⟨_,u,h3,h4⟩:=(ORep.flat hfl).mp h2
    cases o with
    | lst ds'=>
      cases z
      cases u with
      | lst vs=>exact ⟨a,vs,rfl,SqL.of h3,h4⟩
      | _=>exact h4.elim
    | lst2 _=>cases hfl
    | _=>cases z
theorem rep_tup {K:PySem.W.Frag} {P F H:Hp} {ρ:DF} {σ:St} {x:V} {ds:List D} (I:DInv K P F H ρ σ) (r:RepS K ρ σ F x (.tup ds)):∃ a vs,x=.ref a∧SqT K H a vs∧Reps K F vs ds:=by
  rcases r with r | ⟨i,o,hi,h,hfl,z⟩
  · cases r with | tup h q=>exact ⟨_,_,rfl,SqT.of (I.sub _ _ h),q⟩
  · cases o <;> cases z
theorem rep_dT {K:PySem.W.Frag} {P F H:Hp} {ρ:DF} {σ:St} {x:V} {ds:List (List Key×D)} (I:DInv K P F H ρ σ) (r:RepS K ρ σ F x (.dT ds)):∃ a vs,x=.ref a∧H a=some (.dT vs)∧RepsT K F vs ds:=by
  rcases r with r | ⟨i,o,hi,h,hfl,z⟩
  · cases r with | dT h q=>exact ⟨_,_,rfl,I.sub _ _ h,q⟩
  · obtain ⟨a,rfl,h2⟩:=I.slot hi h
    obtain ⟨_,u,h3,h4⟩:=(ORep.flat hfl).mp h2
    cases o with
    | dT ds'=>
      cases z
      cases u with
      | dT vs=>exact ⟨a,vs,rfl,h3,h4⟩
      | _=>exact h4.elim
    | lst2 _=>cases hfl
    | _=>cases z
theorem rep_ins {K:PySem.W.Frag} {P F H:Hp} {ρ:DF} {σ:St} {x:V} {C:Addr} {fs:List (Str×D)} (I:DInv K P F H ρ σ) (r:RepS K ρ σ F x (.ins C fs)):∃ a dx vs,x=.ref a∧H a=some (.ins C dx vs)∧RepsF K F vs fs:=by
  rcases r with r | ⟨i,o,hi,h,hfl,z⟩
  · cases r with | ins h q=>exact ⟨_,_,_,rfl,I.sub _ _ h,q⟩
  · obtain ⟨a,rfl,h2⟩:=I.slot hi h
    obtain ⟨_,u,h3,h4⟩:=(ORep.flat hfl).mp h2
    cases o with
    | ins C' fs'=>
      cases z
      cases u with
      | ins C'' dx vs=>(obtain ⟨rfl,h4⟩:=h4; exact ⟨a,dx,vs,rfl,h3,h4⟩)
      | _=>exact h4.elim
    | lst2 _=>cases hfl
    | _=>cases z
noncomputable def fI (C:Int→Int→Bool) (g:Int→Int→D):D→D→Option D
  | .int i,.int j=>if C i j=true then some (g i j) else none
  | _,_=>none
theorem od_int {K:PySem.W.Frag} {C:Int→Int→Prop} {C':Int→Int→Bool} {g:Int→Int→V} {g':Int→Int→D} (hC:∀ i j,C' i j=true→C i j) (hg:∀ F i j,Rep K F (g i j) (g' i j)):OpD2 K (rI C g) (fI C' g'):=by
  intro P F H ρ σ x y dx dy d Q hf I rx ry k
  unfold fI at hf
  split at hf
  · rename_i i j
    split at hf
    · rename_i hc
      cases hf
      exact ⟨i,j,rep_int rx,rep_int ry,hC i j hc,k _ F H (Evo.refl I.toDHp) (hg F i j)⟩
    · cases hf
  · cases hf
noncomputable def fI0 (g:Int→Int→D):D→D→Option D
  | .int i,.int j=>some (g i j)
  | _,_=>none
theorem od_int0 {K:PySem.W.Frag} {g:Int→Int→V} {g':Int→Int→D} (hg:∀ F i j,Rep K F (g i j) (g' i j)):OpD2 K (rI0 g) (fI0 g'):=by
  intro P F H ρ σ x y dx dy d Q hf I rx ry k
  unfold fI0 at hf
  split at hf
  · rename_i i j
    cases hf
    exact ⟨i,j,rep_int rx,rep_int ry,k _ F H (Evo.refl I.toDHp) (hg F i j)⟩
  · cases hf
noncomputable def subD:=fI0 fun i j=>.int (i - j)
noncomputable def mulD:=fI (fun i j=>decide ((-(2 ^ 64) < i∧i < 2 ^ 64)∨(-(2 ^ 64) < j∧j < 2 ^ 64))) fun i j=>.int (i * j)
noncomputable def fdivD:=fI (fun _ j=>decide (0 < j∧j < 1073741824)) fun i j=>.int (i / j)
noncomputable def modD:=fI (fun _ j=>decide (0 < j)) fun i j=>.int (i % j)
noncomputable def powD:=fI (fun i j=>decide (0≤j∧j≤1000000∧i.natAbs < 2 ^ 64)) fun i j=>.int (i ^ j.toNat)
noncomputable def ltI:=fI0 fun i j=>.bl (decide (i < j))
noncomputable def leI:=fI0 fun i j=>.bl (decide (i≤j))
noncomputable def gtI:=fI0 fun i j=>.bl (decide (j < i))
theorem pd_sub {fa fb:DF→Option D} (ha:PDR X a fa) (hb:PDR X b fb):PDE X (.BinOp a .Sub b pos) (d2 subD fa fb):=pd_bin op_sub (od_int0 fun _ _ _=>.int) ha hb
theorem pd_mul {fa fb:DF→Option D} (ha:PDR X a fa) (hb:PDR X b fb):PDE X (.BinOp a .Mult b pos) (d2 mulD fa fb):=pd_bin op_mul (od_int (fun _ _ h=>by have q:=of_decide_eq_true h; exact q) fun _ _ _=>.int) ha hb
theorem pd_fdiv {fa fb:DF→Option D} (ha:PDR X a fa) (hb:PDR X b fb):PDE X (.BinOp a .FloorDiv b pos) (d2 fdivD fa fb):=pd_bin op_fdiv (od_int (fun _ _ h=>by have q:=of_decide_eq_true h; exact q) fun _ _ _=>.int) ha hb
theorem pd_mod {fa fb:DF→Option D} (ha:PDR X a fa) (hb:PDR X b fb):PDE X (.BinOp a .Mod b pos) (d2 modD fa fb):=pd_bin op_mod (od_int (fun _ _ h=>by have q:=of_decide_eq_true h; exact q) fun _ _ _=>.int) ha hb
theorem pd_pow {fa fb:DF→Option D} (ha:PDR X a fa) (hb:PDR X b fb):PDE X (.BinOp a .Pow b pos) (d2 powD fa fb):=pd_bin op_pow (od_int (fun _ _ h=>by have q:=of_decide_eq_true h; exact q) fun _ _ _=>.int) ha hb
end
noncomputable def tO (K:PySem.W.Frag) (f:DF→Option OD):TE:=fun σ H Q=>∃ P F ρ o,f ρ=some o∧DInv K P F H ρ σ ∧
  ∀ a F' H',Evo P F H F' H'→ORep K F' H' (fun b=>H b=none∧F' b=none) o a→Q (.ref a) H'
noncomputable def PDO (X:Cx) (e:Expr) (f:DF→Option OD):Prop:=PE X e (tO X.K f)
noncomputable def asO (f:DF→Option OD):DF→Option D:=fun ρ=>(f ρ).map OD.d
theorem Evo.back {P F H F' H':Hp} (h:DHp P F H) (e:Evo P F H F' H') {a:Addr} (n:H' a=none):H a=none:=by
  cases q:H a with
  | none=>rfl
  | some o=>rw [e.same h a o q] at n; cases n
open Classical in
noncomputable def frzH (F H:Hp) (ow:Addr→Prop):Hp:=fun b=>if ow b then H b else F b
theorem frzH_yes {F H:Hp} {ow:Addr→Prop} {b:Addr} (h:ow b):frzH F H ow b=H b:=if_pos h
theorem frzH_no {F H:Hp} {ow:Addr→Prop} {b:Addr} (h:¬ ow b):frzH F H ow b=F b:=if_neg h
theorem frzH_same {F H:Hp} {ow:Addr→Prop} (h:∀ b,ow b→F b=none):Same F (frzH F H ow):=fun b u e=>by
  by_cases q:ow b
  · rw [h b q] at e; cases e
  · rw [frzH_no q]; exact e
theorem Evo.freeze {P F H F' H':Hp} (h0:DHp P F H) (e:Evo P F H F' H') (ow:Addr→Prop) (hn:∀ b,ow b→H b=none∧F' b=none):Evo P F H (frzH F' H' ow) H' where
  ext:=e.ext.trans (frzH_same fun b q=>(hn b q).2)
  hp:=⟨fun b u h=>by
      by_cases q:ow b
      · rw [frzH_yes q] at h; exact h
      · rw [frzH_no q] at h; exact e.hp.sub b u h,e.hp.pro,fun b u h=>by
      rw [frzH_no fun q=>by rw [(h0.pro.free (hn b q).1)] at h; cases h]; exact e.hp.dis b u h⟩
  keep:=fun b u h n=>by
    obtain ⟨k1,k2⟩:=e.keep b u h n
    refine ⟨k1,?_⟩
    rw [frzH_no fun q=>by rw [(hn b q).1] at h; cases h]
    exact k2
theorem same_upd {F:Hp} {a:Addr} {o:HO} (h:F a=none):Same F (upd F a o):=fun b u e=>by rw [upd_ne (ne_of_none e h)]; exact e
section
variable {X:Cx} {e:Expr} {es:List Expr} {st:Stmt} {sts rest:List Stmt} {pos:Pos}
theorem PDO.v {f:DF→Option OD} (h:PDO X e f):PDE X e (asO f):=PE.imp h fun σ H Q=>un7 fun P F ρ d hf I k=>by
  unfold asO at hf
  cases q:f ρ with
  | none=>rw [q] at hf; cases hf
  | some o=>
    rw [q] at hf
    cases hf
    refine ⟨P,F,ρ,o,q,I,fun a F' H' ev ho=>?_⟩
    have hn:∀ b,(H b=none∧F' b=none)→H b=none∧F' b=none:=fun _ q=>q
    exact k (.ref a) _ H' (ev.freeze I.toDHp (fun b=>H b=none∧F' b=none) hn) (ho.rep (frzH_same fun b q=>q.2) fun b u q hb=>by rw [frzH_yes q]; exact hb)
noncomputable def asL (f:DF→Option (List D)):DF→Option OD:=fun ρ=>(f ρ).map .lst
inductive RES where
  | nx (ρ:DF) | rt (x:DV) (ρ:DF) | bk (ρ:DF) | ct (ρ:DF)
noncomputable def EndsD (K:PySem.W.Frag) (P F:Hp) (E:Ends):RES→Prop
  | .nx ρ=>∀ σ F' H',Same F F'→DInv K P F' H' ρ σ→E.nx σ H'
  | .bk ρ=>∀ σ F' H',Same F F'→DInv K P F' H' ρ σ→E.bk σ H'
  | .ct ρ=>∀ σ F' H',Same F F'→DInv K P F' H' ρ σ→E.ct σ H'
  | .rt x ρ=>∀ v σ F' H',Same F F'→DInv K P F' H' ρ σ→DVRep K P F' H' anyA x v→E.rt v H'
theorem EndsD.ext {K:PySem.W.Frag} {P F F1:Hp} {E:Ends} {r:RES} (h:EndsD K P F E r) (e:Same F F1):EndsD K P F1 E r:=by
  cases r with
  | nx ρ=>exact fun σ F' H' e' I=>h σ F' H' (e.trans e') I
  | bk ρ=>exact fun σ F' H' e' I=>h σ F' H' (e.trans e') I
  | ct ρ=>exact fun σ F' H' e' I=>h σ F' H' (e.trans e') I
  | rt x ρ=>exact fun v σ F' H' e' I r=>h v σ F' H' (e.trans e') I r
noncomputable def tS (K:PySem.W.Frag) (g:DF→Option RES):TS:=fun E σ H=>∃ P F ρ r,g ρ=some r∧DInv K P F H ρ σ∧EndsD K P F E r
noncomputable def PD1 (X:Cx) (st:Stmt) (g:DF→Option RES):Prop:=PS X st (tS X.K g)
noncomputable def PDS (X:Cx) (sts:List Stmt) (g:DF→Option RES):Prop:=PSs X sts (tS X.K g)
theorem PS.imp {t t':TS} (h:PS X st t) (i:∀ E σ H,t' E σ H→t E σ H):PS X st t':=fun pins s σ H E I q=>h pins s σ H E I (i E σ H q)
theorem PSs.imp {t t':TS} (h:PSs X sts t) (i:∀ E σ H,t' E σ H→t E σ H):PSs X sts t':=fun pins s σ H E I q=>h pins s σ H E I (i E σ H q)
noncomputable def dNx:DF→Option RES:=fun ρ=>some (.nx ρ)
theorem tS_nx {K:PySem.W.Frag}:∀ E σ H,tS K dNx E σ H→E.nx σ H:=fun E σ H=>un7 fun P F ρ r hg I k=>by
  cases hg
  exact k σ F H (Same.refl _) I
theorem pds_nil:PDS X [] dNx:=PSs.imp pss_nil tS_nx
noncomputable def dSeq (g h:DF→Option RES):DF→Option RES:=fun ρ=>match g ρ with
  | some (.nx ρ')=>h ρ'
  | r=>r
theorem pds_cons {g h:DF→Option RES} (h1:PD1 X st g) (h2:PDS X rest h):PDS X (st::rest) (dSeq g h):=PSs.imp (pss_cons h1 h2) fun E σ H=>un7 fun P F ρ r hg I k=>by
  unfold dSeq at hg
  split at hg
  · rename_i ρ' q
    exact ⟨P,F,ρ,_,q,I,fun σ' F' H' e I'=>⟨P,F',ρ',r,hg,I',k.ext e⟩⟩
  · rename_i q
    refine ⟨P,F,ρ,r,hg,I,?_⟩
    cases r with
    | nx ρ'=>exact absurd hg (q ρ')
    | bk ρ=>exact k
    | ct ρ=>exact k
    | rt x ρ=>exact k
theorem pds_one {g:DF→Option RES} (h1:PD1 X st g):PDS X [st] g:=PSs.imp (pss_one h1) fun _ _ _ q=>q
noncomputable def dRet (f:DF→Option D):DF→Option RES:=fun ρ=>(f ρ).map fun d=>.rt (.v d) ρ
theorem pd_ret {f:DF→Option D} (h:PDE X e f):PD1 X (.Return (some e) pos) (dRet f):=PS.imp (ps_ret h) fun E σ H=>un7 fun P F ρ r hg I k=>by
  unfold dRet at hg
  cases q:f ρ with
  | none=>rw [q] at hg; cases hg
  | some d=>
    rw [q] at hg
    cases hg
    exact ⟨P,F,ρ,d,q,I,fun v F' H' ev rv=>k v σ F' H' ev.ext (I.evo ev) rv⟩
noncomputable def dRetO (f:DF→Option OD):DF→Option RES:=fun ρ=>(f ρ).map fun o=>.rt (.own o none) ρ
theorem pd_retO {f:DF→Option OD} (h:PDO X e f):PD1 X (.Return (some e) pos) (dRetO f):=PS.imp (ps_ret h) fun E σ H=>un7 fun P F ρ r hg I k=>by
  unfold dRetO at hg
  cases q:f ρ with
  | none=>rw [q] at hg; cases hg
  | some o=>
    rw [q] at hg
    cases hg
    exact ⟨P,F,ρ,o,q,I,fun a F' H' ev ho=>k (.ref a) σ F' H' ev.ext (I.evo ev) ⟨a,rfl,ho.mono (Same.refl _) fun b u q hb=>⟨hb,q.2,I.pro.free q.1,trivial⟩,fun _ z=>nomatch z⟩⟩
noncomputable def dRetS (i:Nat):DF→Option RES:=fun ρ=>match ρ[i]? with
  | some (some x)=>some (.rt x ρ)
  | _=>none
theorem pd_retS (i:Nat) (h:PE X e (tVar i)):PD1 X (.Return (some e) pos) (dRetS i):=PS.imp (ps_ret h) fun E σ H=>un7 fun P F ρ r hg I k=>by
  unfold dRetS at hg
  split at hg
  · rename_i x q
    cases hg
    obtain ⟨v,h1,h2⟩:=I.at q
    exact ⟨v,h1,k v σ F H (Same.refl _) I h2⟩
  · cases hg
theorem set_get {α:Type} {l:List α} {i j:Nat} {x y:α} (h:(l.set i x)[j]?=some y):(i=j∧y=x∧i < l.length)∨(i≠j∧l[j]?=some y):=by
  by_cases hj:i=j
  · subst hj
    have hl:i < l.length:=by have:=(List.getElem?_eq_some_iff.mp h).1; rwa [List.length_set] at this
    rw [List.getElem?_set_self hl] at h
    exact .inl ⟨rfl,(Option.some.inj h).symm,hl⟩
  · rw [List.getElem?_set_ne hj] at h
    exact .inr ⟨hj,h⟩
theorem DInv.setO {K:PySem.W.Frag} {P F H:Hp} {ρ:DF} {σ:St} (I:DInv K P F H ρ σ) (i:Nat) {v:V} {x:DV} (nw:Addr→Prop) (hn:∀ (j:Nat) (y:DV) (w:V) (O:Addr→Option Nat),j≠i→ρ[j]?=some (some y)→DVRep K P F H (fun b=>O b=some j) y w→DVRep K P F H (fun b=>O b=some j∧¬ nw b) y w) (r:DVRep K P F H nw x v) :
    DInv K P F H (ρ.set i (some x)) (σ.set i (some v)):=by
  obtain ⟨O,h⟩:=I.rep
  refine ⟨I.toDHp,by rw [List.length_set,List.length_set]; exact I.len,?_⟩
  classical
  refine ⟨fun b=>if nw b then some i else if O b=some i then none else O b,fun j y hj=>?_⟩
  rcases set_get hj with ⟨rfl,e,hl⟩ | ⟨hij,hj'⟩
  · cases e
    refine ⟨v,by rw [List.getElem?_set_self (by rw [← I.len]; exact hl)],r.imp fun b u _ _ _ q=>if_pos q⟩
  · obtain ⟨w,h1,h2⟩:=h j y hj'
    refine ⟨w,by rw [List.getElem?_set_ne hij]; exact h1,(hn j y w O (Ne.symm hij) hj' h2).imp fun b u _ _ _ q=>?_⟩
    show (if nw b then some i else if O b=some i then none else O b)=some j
    rw [if_neg q.2,if_neg (by rw [q.1]; intro z; exact hij (Option.some.inj z).symm),q.1]
theorem DInv.setV {K:PySem.W.Frag} {P F H:Hp} {ρ:DF} {σ:St} (I:DInv K P F H ρ σ) (i:Nat) {v:V} {d:D} (r:Rep K F v d):DInv K P F H (ρ.set i (some (.v d))) (σ.set i (some v)):=
  I.setO i (fun _=>False) (fun j y w O _ _ q=>q.imp fun b u _ _ _ z=>⟨z,id⟩) r
theorem DInv.setN {K:PySem.W.Frag} {P F H F' H':Hp} {ρ:DF} {σ:St} (I:DInv K P F H ρ σ) (ev:Evo P F H F' H') (i:Nat) {a:Addr} {o:OD} (ho:ORep K F' H' (fun b=>H b=none∧F' b=none) o a):DInv K P F' H' (ρ.set i (some (.own o none))) (σ.set i (some (.ref a))):=by
  obtain ⟨O,h⟩:=I.rep
  refine ⟨ev.hp,by rw [List.length_set,List.length_set]; exact I.len,?_⟩
  classical
  refine ⟨fun b=>if H b=none then some i else if O b=some i then none else O b,fun j y hj=>?_⟩
  rcases set_get hj with ⟨rfl,e,hl⟩ | ⟨hij,hj'⟩
  · cases e
    refine ⟨.ref a,by rw [List.getElem?_set_self (by rw [← I.len]; exact hl)],a,rfl,ho.mono (Same.refl _) fun b u q hb=>⟨hb,q.2,I.pro.free q.1,if_pos q.1⟩,fun _ z=>nomatch z⟩
  · obtain ⟨w,h1,h2⟩:=h j y hj'
    refine ⟨w,by rw [List.getElem?_set_ne hij]; exact h1,?_⟩
    have h3:DVRep K P F H (fun b=>(if H b=none then some i else if O b=some i then none else O b)=some j) y w:=h2.imp fun b u _ _ hb q=>by
      show (if H b=none then some i else if O b=some i then none else O b)=some j
      rw [if_neg (by rw [hb]; simp),if_neg (by rw [q]; intro z; exact hij (Option.some.inj z).symm),q]
    exact h3.evo ev
noncomputable def setV (i:Nat) (d:D) (ρ:DF):Option DF:=some (ρ.set i (some (.v d)))
noncomputable def dSet (i:Nat) (f:DF→Option D):DF→Option RES:=fun ρ=>(f ρ).map fun d=>.nx (ρ.set i (some (.v d)))
theorem tAsg_v {K:PySem.W.Frag} {i:Nat} {f:DF→Option D}:∀ E σ H,tS K (dSet i f) E σ H→tAsg (tD K f) (gName i) E σ H:=fun E σ H=>un7 fun P F ρ r hg I k=>by
  unfold dSet at hg
  cases q:f ρ with
  | none=>rw [q] at hg; cases hg
  | some d=>
    rw [q] at hg
    cases hg
    exact ⟨P,F,ρ,d,q,I,fun v F' H' ev rv=>k _ F' H' ev.ext ((I.evo ev).setV i rv)⟩
theorem pd_set {i:Nat} {x:Str} {pos':Pos} {f:DF→Option D} (hN:X.N.Nodup) (hi:X.N[i]?=some x) (hx:Loc X.env.scope x) (he:PDE X e f) (hs:swapsWith e (some (.Name x pos')) pos.line X.env=pure false:=by rfl) (hf:X.fn x=true∨X.env.scope.names.lookup x=some .local:=by first | exact .inl rfl | exact .inr rfl | assumption) :
    PD1 X (.Assign [.Name x pos'] e pos) (dSet i f):=PS.imp (ps_set hN hi hx he hs hf) tAsg_v
noncomputable def dSetO (i:Nat) (f:DF→Option OD):DF→Option RES:=fun ρ=>(f ρ).map fun o=>.nx (ρ.set i (some (.own o none)))
theorem tAsg_o {K:PySem.W.Frag} {i:Nat} {f:DF→Option OD}:∀ E σ H,tS K (dSetO i f) E σ H→tAsg (tO K f) (gName i) E σ H:=fun E σ H=>un7 fun P F ρ r hg I k=>by
  unfold dSetO at hg
  cases q:f ρ with
  | none=>rw [q] at hg; cases hg
  | some o=>
    rw [q] at hg
    cases hg
    exact ⟨P,F,ρ,o,q,I,fun a F' H' ev ho=>k _ F' H' ev.ext (I.setN ev i ho)⟩
theorem pd_setO {i:Nat} {x:Str} {pos':Pos} {f:DF→Option OD} (hN:X.N.Nodup) (hi:X.N[i]?=some x) (hx:Loc X.env.scope x) (he:PDO X e f) (hs:swapsWith e (some (.Name x pos')) pos.line X.env=pure false:=by rfl) (hf:X.fn x=true∨X.env.scope.names.lookup x=some .local:=by first | exact .inl rfl | exact .inr rfl | assumption) :
    PD1 X (.Assign [.Name x pos'] e pos) (dSetO i f):=PS.imp (ps_set hN hi hx he hs hf) tAsg_o
noncomputable def dFrz (i:Nat) (g:DF→Option RES):DF→Option RES:=fun ρ=>match ρ[i]? with
  | some (some (.own o none))=>g (ρ.set i (some (.v o.d)))
  | some (some (.v d))=>g ρ
  | _=>none
theorem DInv.frz {K:PySem.W.Frag} {P F H:Hp} {ρ:DF} {σ:St} (I:DInv K P F H ρ σ) {i:Nat} {o:OD} {t:Option Addr} (h:ρ[i]?=some (some (.own o t))):∃ F',Same F F'∧DInv K P F' H (ρ.set i (some (.v o.d))) σ:=by
  obtain ⟨O,hr⟩:=I.rep
  have hn:∀ b,(F b=none∧P b=none∧O b=some i)→F b=none:=fun b q=>q.1
  refine ⟨frzH F H (fun b=>F b=none∧P b=none∧O b=some i),frzH_same hn,⟨fun b u q=>?_,I.pro,fun b u q=>?_⟩,by rw [List.length_set]; exact I.len,O,fun j y hj=>?_⟩
  · by_cases c:F b=none∧P b=none∧O b=some i
    · rw [frzH_yes (ow:=fun b=>F b=none∧P b=none∧O b=some i) c] at q; exact q
    · rw [frzH_no (ow:=fun b=>F b=none∧P b=none∧O b=some i) c] at q; exact I.sub b u q
  · rw [frzH_no (ow:=fun b=>F b=none∧P b=none∧O b=some i) fun c=>by rw [c.2.1] at q; cases q]; exact I.dis b u q
  · rcases set_get hj with ⟨rfl,e,hl⟩ | ⟨hij,hj'⟩
    · cases e
      obtain ⟨v,h1,a,rfl,h2,_⟩:=hr i _ h
      exact ⟨_,h1,h2.rep (frzH_same hn) fun b u q hb=>by rw [frzH_yes (ow:=fun b=>F b=none∧P b=none∧O b=some i) q]; exact hb⟩
    · obtain ⟨v,h1,h2⟩:=hr j y hj'
      refine ⟨v,h1,?_⟩
      cases y with
      | v d=>exact Rep.same (frzH_same hn) h2
      | own o' t'=>
        obtain ⟨a,rfl,h3,ht⟩:=h2
        exact ⟨a,rfl,h3.mono (frzH_same hn) fun b u q hb=>⟨hb,by
          rw [frzH_no (ow:=fun b=>F b=none∧P b=none∧O b=some i) fun c=>by rw [q.2.2] at c; exact hij (Option.some.inj c.2.2).symm]; exact q.1,q.2⟩,ht⟩
      | bor o'=>
        obtain ⟨a,rfl,h3⟩:=h2
        exact ⟨a,rfl,h3.mono (frzH_same hn) fun b u q hb=>⟨hb,q⟩⟩
theorem tS_frz {K:PySem.W.Frag} {i:Nat} {g:DF→Option RES}:∀ E σ H,tS K (dFrz i g) E σ H→tS K g E σ H:=fun E σ H=>un7 fun P F ρ r hg I k=>by
  unfold dFrz at hg
  split at hg
  · rename_i o q
    obtain ⟨F',e,I'⟩:=I.frz q
    exact ⟨P,F',_,r,hg,I',k.ext e⟩
  · exact ⟨P,F,ρ,r,hg,I,k⟩
  · cases hg
theorem pd1_frz (i:Nat) {g:DF→Option RES} (h:PD1 X st g):PD1 X st (dFrz i g):=PS.imp h tS_frz
noncomputable def dNone:DF→Option RES:=fun _=>none
theorem pd_never:PD1 X st dNone:=PS.imp ps_never fun _ _ _ ⟨_,_,_,_,h,_⟩=>by cases h
noncomputable def dDrop (f:DF→Option D):DF→Option RES:=fun ρ=>(f ρ).map fun _=>.nx ρ
theorem pd_expr {f:DF→Option D} (h:PDE X e f) (hs:swapsWith e none pos.line X.env=pure false:=by rfl):PD1 X (.Expr e pos) (dDrop f):=PS.imp (ps_expr h hs) fun E σ H=>un7 fun P F ρ r hg I k=>by
  unfold dDrop at hg
  cases q:f ρ with
  | none=>rw [q] at hg; cases hg
  | some d=>
    rw [q] at hg
    cases hg
    exact ⟨P,F,ρ,d,q,I,fun v F' H' ev _=>k σ F' H' ev.ext (I.evo ev)⟩
noncomputable def dIf (c:DF→Option Bool) (g h:DF→Option RES):DF→Option RES:=fun ρ=>(c ρ).bind fun b=>if b=true then g ρ else h ρ
theorem pd_if {c:Expr} {a b:List Stmt} {fc:DF→Option Bool} {g h:DF→Option RES} (hc:PDT X c fc) (ha:PDS X a g) (hb:PDS X b h):PD1 X (.If c a b pos) (dIf fc g h):=PS.imp (ps_if hc ha hb) fun E σ H=>un7 fun P F ρ r hg I k=>by
  unfold dIf at hg
  cases q:fc ρ with
  | none=>rw [q] at hg; cases hg
  | some b=>
    rw [q,Option.bind_some] at hg
    refine ⟨P,F,ρ,b,q,I,fun F' H' ev=>?_⟩
    cases b with
    | true=>
      rw [if_pos rfl] at hg ⊢
      exact ⟨P,F',ρ,r,hg,I.evo ev,k.ext ev.ext⟩
    | false=>
      rw [if_neg Bool.false_ne_true] at hg ⊢
      exact ⟨P,F',ρ,r,hg,I.evo ev,k.ext ev.ext⟩
noncomputable def ItOk (K:PySem.W.Frag) (P:Hp) (J:It) (F:Hp) (ds:List D):Prop:=
  ∀ F' H',Same F F'→DHp P F' H'→∀ i:Nat,(∀ d,ds[i]?=some d→J.go i H'∧∀ x H2,J.yld i H' x H2→∃ F2,Evo P F' H' F2 H2∧Rep K F2 x d)∧(ds.length≤i→J.stop i H')
noncomputable def tI (K:PySem.W.Frag) (f:DF→Option (List D)):TI:=fun σ H R=>∃ P F ρ ds,f ρ=some ds∧DInv K P F H ρ σ∧∀ (J:It) F' H',Evo P F H F' H'→ItOk K P J F' ds→R J H'
noncomputable def PDI (X:Cx) (tg iter:Expr) (f:DF→Option (List D)):Prop:=PI X tg iter (tI X.K f)
theorem PI.imp {tg iter:Expr} {t t':TI} (h:PI X tg iter t) (i:∀ σ H R,t' σ H R→t σ H R):PI X tg iter t':=fun pins s σ H R I q=>h pins s σ H R I (i σ H R q)
noncomputable def tG (K:PySem.W.Frag) (is:List Nat) (st:D→DF→Option DF):TG:=fun v σ H Q=>∃ P F ρ d ρ',st d ρ=some ρ'∧DInv K P F H ρ σ∧Rep K F v d∧∀ σ' F' H',Evo P F H F' H'→DInv K P F' H' ρ' σ'→σ'.length=σ.length→(∀ j,j∉is→σ'[j]?=σ[j]?)→Q σ' H'
noncomputable def PDG (X:Cx) (tg:Expr) (is:List Nat) (st:D→DF→Option DF):Prop:=PG X tg (tG X.K is st)
theorem PG.imp {tg:Expr} {t t':TG} (h:PG X tg t) (i:∀ v σ H Q,t' v σ H Q→t v σ H Q):PG X tg t':=fun pins s σ H v u Q I r q=>h pins s σ H v u Q I r (i v σ H Q q)
theorem pdg_name {i:Nat} {x:Str} (hN:X.N.Nodup) (hi:X.N[i]?=some x) (hx:Loc X.env.scope x) (hf:X.fn x=true∨X.env.scope.names.lookup x=some .local:=by first | exact .inl rfl | exact .inr rfl | assumption):PDG X (.Name x pos) [i] (setV i):=
  PG.imp (pg_name hN hi hx hf) fun v σ H Q hh_=>by
    obtain ⟨P,F,ρ,d,ρ',hs,I,r,k⟩:=hh_
    cases hs
    exact k _ F H (Evo.refl I.toDHp) (I.setV i r) (List.length_set ..) fun j hj=>by rw [List.getElem?_set_ne (fun z=>hj (by rw [z]; exact List.mem_singleton_self _))]
noncomputable def forD (st:D→DF→Option DF) (body:DF→Option RES):List D→DF→Option RES
  | [],ρ=>some (.nx ρ)
  | d::ds,ρ=>match st d ρ with
    | none=>none
    | some ρ1=>match body ρ1 with
      | some (.nx ρ')=>forD st body ds ρ'
      | some (.ct ρ')=>forD st body ds ρ'
      | some (.bk ρ')=>some (.nx ρ')
      | r=>r
noncomputable def dFor (it:DF→Option (List D)) (st:D→DF→Option DF) (body:DF→Option RES):DF→Option RES:=fun ρ=>(it ρ).bind fun ds=>forD st body ds ρ
theorem pd_for {tg iter:Expr} {body:List Stmt} {f:DF→Option (List D)} {is:List Nat} {st:D→DF→Option DF} {g:DF→Option RES} (hp:PassesOwn (model X.prog X.w) X.A X.env X.xe) (hc:X.calm=true) (hi:PDI X tg iter f) (hg:PDG X tg is st) (hb:PDS X body g)
    (hs:∀ x,foldedSetIterable iter X.env x=pure x:=by intro _; rfl):PD1 X (.For tg iter body [] pos) (dFor f st g):=PS.imp (ps_for hp hc hi hg hb hs) fun E σ H=>un7 fun P F ρ r hr I k=>by
  unfold dFor at hr
  cases q:f ρ with
  | none=>rw [q] at hr; cases hr
  | some ds=>
    rw [q,Option.bind_some] at hr
    refine ⟨P,F,ρ,ds,q,I,fun J F1 H1 ev ok=>?_⟩
    refine ⟨fun i m σ' H'=>m=ds.length - i∧i≤ds.length∧∃ F' ρ',Same F1 F'∧DInv X.K P F' H' ρ' σ'∧forD st g (ds.drop i) ρ'=some r,⟨_,rfl,Nat.zero_le _,F1,ρ,Same.refl _,I.evo ev,hr⟩,?_⟩
    rintro i m σ' H' ⟨rfl,hil,F',ρ',se,I',hf⟩
    obtain ⟨ok1,ok2⟩:=ok F' H' se I'.toDHp i
    by_cases hlt:i < ds.length
    · have hd:ds[i]?=some ds[i]:=List.getElem?_eq_getElem hlt
      obtain ⟨go,yl⟩:=ok1 _ hd
      have hdrop:ds.drop i=ds[i]::ds.drop (i + 1):=List.drop_eq_getElem_cons hlt
      rw [hdrop] at hf
      unfold forD at hf
      cases hst:st ds[i] ρ' with
      | none=>rw [hst] at hf; cases hf
      | some ρ1=>
        rw [hst] at hf
        dsimp only at hf
        have hE:Same F F':=ev.ext.trans se
        refine .inr ⟨go,fun σ2 H2=>∃ F2 ρ2,Same F1 F2∧DInv X.K P F2 H2 ρ2 σ2∧forD st g (ds.drop (i + 1)) ρ2=some r,fun σ2 H2 ⟨F2,ρ2,s2,I2,hf2⟩=>⟨ds.length - (i + 1),by omega,rfl,hlt,F2,ρ2,s2,I2,hf2⟩,fun x H2 hy=>?_⟩
        obtain ⟨F2,ev2,rx⟩:=yl x H2 hy
        refine ⟨P,F2,ρ',ds[i],ρ1,hst,I'.evo ev2,rx,fun σ3 F3 H3 ev3 I3 _ _=>?_⟩
        have s13:Same F1 F3:=se.trans (ev2.ext.trans ev3.ext)
        cases hb':g ρ1 with
        | none=>rw [hb'] at hf; cases hf
        | some res=>
          rw [hb'] at hf
          refine ⟨P,F3,ρ1,res,hb',I3,?_⟩
          cases res with
          | nx ρ4=>exact fun σ4 F4 H4 e4 I4=>⟨F4,ρ4,s13.trans e4,I4,hf⟩
          | ct ρ4=>exact fun σ4 F4 H4 e4 I4=>⟨F4,ρ4,s13.trans e4,I4,hf⟩
          | bk ρ4=>
            cases hf
            exact fun σ4 F4 H4 e4 I4=>k σ4 F4 H4 (ev.ext.trans (s13.trans e4)) I4
          | rt x4 ρ4=>
            cases hf
            exact fun v4 σ4 F4 H4 e4 I4 r4=>k v4 σ4 F4 H4 (ev.ext.trans (s13.trans e4)) I4 r4
    · have hz:ds.drop i=[]:=List.drop_eq_nil_of_le (by omega)
      rw [hz] at hf
      cases hf
      exact .inl ⟨ok2 (by omega),k σ' F' H' (ev.ext.trans se) I'⟩
end
noncomputable def gd (F H:Hp):Hp:=fun a=>match F a with
  | none=>H a
  | some _=>none
theorem gd_eq {F H:Hp} {a:Addr} {o:HO}:gd F H a=some o↔F a=none∧H a=some o:=by
  unfold gd
  cases q:F a with
  | none=>simp
  | some u=>simp
theorem gd_hp {F H:Hp} (s:Same F H):DHp (gd F H) F H:=⟨s,fun a o e=>(gd_eq.mp e).2,fun a o e=>(gd_eq.mp e).1⟩
theorem DHp.gd {P F H F' H':Hp} (h:DHp P F H) (e:Same F F') (g:DHp (gd F H) F' H'):Evo P F H F' H' where
  ext:=e
  hp:=⟨g.sub,fun a o q=>g.pro a o (gd_eq.mpr ⟨h.dis a o q,h.pro a o q⟩),fun a o q=>g.dis a o (gd_eq.mpr ⟨h.dis a o q,h.pro a o q⟩)⟩
  keep:=fun a o q n=>⟨g.pro a o (gd_eq.mpr ⟨n,q⟩),g.dis a o (gd_eq.mpr ⟨n,q⟩)⟩
theorem Evo.change {P P1 F H F' H':Hp} (e:Evo P F H F' H') (h:DHp P1 F H):Evo P1 F H F' H':=
  ⟨e.ext,⟨e.hp.sub,fun a o q=>(e.keep a o (h.pro a o q) (h.dis a o q)).1,fun a o q=>(e.keep a o (h.pro a o q) (h.dis a o q)).2⟩,e.keep⟩
noncomputable def isOwn:DV→Bool
  | .own _ _=>true
  | _=>false
inductive DVs (K:PySem.W.Frag) (P F H:Hp):List DV→List V→Prop
  | nil:DVs K P F H [] []
  | cons {x:DV} {v:V} {xs:List DV} {vs:List V}:isOwn x=false→DVRep K P F H anyA x v→DVs K P F H xs vs→DVs K P F H (x::xs) (v::vs)
theorem DVs.length {K:PySem.W.Frag} {P F H:Hp} {xs:List DV} {vs:List V} (h:DVs K P F H xs vs):xs.length=vs.length:=by
  induction h with
  | nil=>rfl
  | cons _ _ _ ih=>exact congrArg Nat.succ ih
theorem DVs.get {K:PySem.W.Frag} {P F H:Hp} {xs:List DV} {vs:List V} {i:Nat} {x:DV} (h:DVs K P F H xs vs) (e:xs[i]?=some x):isOwn x=false∧∃ v,vs[i]?=some v∧DVRep K P F H anyA x v:=by
  induction h generalizing i with
  | nil=>exact nomatch e
  | cons h r _ ih=>
    cases i with
    | zero=>obtain rfl:=Option.some.inj e; exact ⟨h,_,rfl,r⟩
    | succ i=>exact ih e
noncomputable def spD (K:PySem.W.Frag) (m:List DV→Option DV):Sp:=fun vs H Q _=>∃ P F xs x,m xs=some x∧DHp P F H∧DVs K P F H xs vs∧∀ v F' H',Same F F'→DHp P F' H'→DVRep K P F' H' anyA x v→Q v H'
noncomputable def startD (n p:Nat) (xs:List DV):DF:=xs.map some++List.replicate (n - p) none
noncomputable def retOf:Option RES→Option DV
  | some (.rt x _)=>some x
  | some (.nx _)=>some (.v .non)
  | _=>none
noncomputable def mOf (n p:Nat) (g:DF→Option RES):List DV→Option DV:=fun xs=>if xs.length=p then retOf (g (startD n p xs)) else none
theorem startD_get {n p:Nat} {xs:List DV} {i:Nat} {x:DV} (h:(startD n p xs)[i]?=some (some x)):xs[i]?=some x:=by
  unfold startD at h
  by_cases hi:i < xs.length
  · rw [List.getElem?_append_left (by simpa using hi),List.getElem?_map] at h
    cases q:xs[i]? with
    | none=>rw [q] at h; cases h
    | some y=>rw [q] at h; cases h; rfl
  · rw [List.getElem?_append_right (by simpa using hi),List.getElem?_replicate] at h
    split at h <;> cases h
theorem start_get {N:List Str} {vs:List V} {i:Nat} {v:V} (h:vs[i]?=some v):(start N vs)[i]?=some (some v):=by
  unfold start
  have hi:i < vs.length:=(List.getElem?_eq_some_iff.mp h).1
  rw [List.getElem?_append_left (by simpa using hi),List.getElem?_map,h]
  rfl
theorem DInv.start {K:PySem.W.Frag} {P F H:Hp} {xs:List DV} {vs:List V} (N:List Str) (p:Nat) (h:DHp P F H) (r:DVs K P F H xs vs) (hp:xs.length=p):DInv K P F H (startD N.length p xs) (start N vs):=by
  refine ⟨h,?_,fun _=>none,fun i x e=>?_⟩
  · unfold startD L2.start
    rw [List.length_append,List.length_append,List.length_map,List.length_map,List.length_replicate,List.length_replicate,r.length,← r.length,hp]
  · obtain ⟨ho,v,h1,h2⟩:=r.get (startD_get e)
    refine ⟨v,start_get h1,?_⟩
    cases x with
    | own o t=>cases ho
    | v d=>exact h2
    | bor o=>exact h2
theorem Fun.okD {P:Program} {w:World} {K:PySem.W.Frag} {mg:Str→Option Value} {base:Heap} {x qual:Str} {st:Stmt} {f:Addr} {fd:FuncData} {N ps:List Str} {k:Nat} {g:DF→Option RES} (F:Fun K x qual st f fd) (S:FnScope N ps (defScope st))
    (hbody:∀ (cdv:Value) (A:Around) (outer:List Env) (s:Shared) (H:Hp) (E:XK),Room k (A.deeper (envOfC qual (defScope st) s.heap.objs.size f cdv))→
      PDS (cxOf CX0 P w K mg base N qual (defScope st) f cdv A outer s H E).nox (defBody st) g):FnOk P w K mg base CX0 (k + 1) f fd ps (spD K (mOf N.length ps.length g)):=by
  have lens:∀ vs H Q E,spD K (mOf N.length ps.length g) vs H Q E→vs.length=ps.length:=fun vs H Q E hh_=>by
    obtain ⟨P',F',xs,x',hm,hp,hv,_⟩:=hh_
    unfold mOf at hm
    split at hm
    · rename_i h; rw [← hv.length]; exact h
    · cases hm
  refine F.ok S lens fun cdv A outer s H vs Q E hr h=>?_
  refine ⟨_,hbody cdv A outer s H E hr,?_⟩
  obtain ⟨P',F',xs,x',hm,hp,hv,hQ⟩:=h
  unfold mOf at hm
  split at hm
  · rename_i hl
    have I:DInv K P' F' H (startD N.length ps.length xs) (start N vs):=DInv.start N ps.length hp hv hl
    cases q:g (startD N.length ps.length xs) with
    | none=>rw [q] at hm; cases hm
    | some r=>
      rw [q] at hm
      refine ⟨P',F',_,r,q,I,?_⟩
      cases r with
      | rt y ρ=>cases hm; exact fun v σ F2 H2 e h r=>hQ v F2 H2 e h.toDHp r
      | nx ρ=>cases hm; exact fun σ F2 H2 e I2=>hQ .non F2 H2 e I2.toDHp .non
      | bk ρ=>cases hm
      | ct ρ=>cases hm
  · cases hm
inductive ArgsS (K:PySem.W.Frag) (ρ:DF) (σ:St) (F:Hp):List DV→List V→Prop
  | nil:ArgsS K ρ σ F [] []
  | v {d:D} {v:V} {xs:List DV} {vs:List V}:Rep K F v d→ArgsS K ρ σ F xs vs→ArgsS K ρ σ F (.v d::xs) (v::vs)
  | b {o:OD} {v:V} {xs:List DV} {vs:List V} (i:Nat):σ[i]?=some (some v)→((∃ t,ρ[i]?=some (some (.own o t)))∨ρ[i]?=some (some (.bor o)))→ArgsS K ρ σ F xs vs→ArgsS K ρ σ F (.bor o::xs) (v::vs)
theorem ArgsS.dvs {K:PySem.W.Frag} {P F H:Hp} {ρ:DF} {σ:St} (I:DInv K P F H ρ σ) {xs:List DV} {vs:List V} (h:ArgsS K ρ σ F xs vs):DVs K (gd F H) F H xs vs:=by
  induction h with
  | nil=>exact .nil
  | v h _ ih=>exact .cons rfl h ih
  | b i h1 h2 _ ih=>
    obtain ⟨a,rfl,h3⟩:=I.slot h1 h2
    exact .cons rfl ⟨a,rfl,h3.mono (Same.refl _) fun b u q hb=>⟨gd_eq.mpr ⟨q,hb⟩,trivial⟩⟩ ih
noncomputable def tLV (K:PySem.W.Frag) (f:DF→Option (List DV)):TA:=fun σ H Q=>∃ P F ρ xs,f ρ=some xs∧DInv K P F H ρ σ∧∀ vs F' H',Evo P F H F' H'→ArgsS K ρ σ F' xs vs→Q vs H'
noncomputable def PDAV (X:Cx) (es:List Expr) (f:DF→Option (List DV)):Prop:=PA X es (tLV X.K f)
section
variable {X:Cx} {e:Expr} {es:List Expr} {pos:Pos}
theorem pdv_nil:PDAV X [] (fun _=>some []):=PA.imp pa_nil fun σ H Q=>un7 fun P F ρ xs hf I k=>by
  cases hf
  exact k [] F H (Evo.refl I.toDHp) .nil
noncomputable def aV (f:DF→Option D) (g:DF→Option (List DV)):DF→Option (List DV):=fun ρ=>(f ρ).bind fun d=>(g ρ).map fun xs=>.v d::xs
theorem pdv_v {f:DF→Option D} {g:DF→Option (List DV)} (h:PDE X e f) (hr:PDAV X es g) (hs:starEach (e::es) X.env=(false,eval e X.env)::starEach es X.env:=by rfl):PDAV X (e::es) (aV f g):=PA.imp (pa_cons h hr hs) fun σ H Q=>un7 fun P F ρ xs hf I k=>by
  unfold aV at hf
  cases q:f ρ with
  | none=>rw [q] at hf; cases hf
  | some d=>
    rw [q,Option.bind_some] at hf
    cases q2:g ρ with
    | none=>rw [q2] at hf; cases hf
    | some ys=>
      rw [q2] at hf
      cases hf
      exact ⟨P,F,ρ,d,q,I,fun v F1 H1 e1 r1=>⟨P,F1,ρ,ys,q2,I.evo e1,fun vs F2 H2 e2 r2=>k (v::vs) F2 H2 (e1.trans e2) (.v (r1.same e2.ext) r2)⟩⟩
noncomputable def aB (i:Nat) (g:DF→Option (List DV)):DF→Option (List DV):=fun ρ=>match ρ[i]? with
  | some (some (.own o _))=>(g ρ).map fun xs=>.bor o::xs
  | some (some (.bor o))=>(g ρ).map fun xs=>.bor o::xs
  | some (some (.v d))=>(g ρ).map fun xs=>.v d::xs
  | _=>none
theorem pdv_b (i:Nat) {g:DF→Option (List DV)} (h:PE X e (tVar i)) (hr:PDAV X es g) (hs:starEach (e::es) X.env=(false,eval e X.env)::starEach es X.env:=by rfl):PDAV X (e::es) (aB i g):=PA.imp (pa_cons h hr hs) fun σ H Q=>un7 fun P F ρ xs hf I k=>by
  unfold aB at hf
  split at hf
  · rename_i o t q
    obtain ⟨v,h1,h2⟩:=I.at q
    cases q2:g ρ with
    | none=>rw [q2] at hf; cases hf
    | some ys=>
      rw [q2] at hf
      cases hf
      exact ⟨v,h1,P,F,ρ,ys,q2,I,fun vs F2 H2 e2 r2=>k (v::vs) F2 H2 e2 (.b i h1 (.inl ⟨t,q⟩) r2)⟩
  · rename_i o q
    obtain ⟨v,h1,h2⟩:=I.at q
    cases q2:g ρ with
    | none=>rw [q2] at hf; cases hf
    | some ys=>
      rw [q2] at hf
      cases hf
      exact ⟨v,h1,P,F,ρ,ys,q2,I,fun vs F2 H2 e2 r2=>k (v::vs) F2 H2 e2 (.b i h1 (.inr q) r2)⟩
  · rename_i d q
    obtain ⟨v,h1,h2⟩:=I.at q
    cases q2:g ρ with
    | none=>rw [q2] at hf; cases hf
    | some ys=>
      rw [q2] at hf
      cases hf
      exact ⟨v,h1,P,F,ρ,ys,q2,I,fun vs F2 H2 e2 r2=>k (v::vs) F2 H2 e2 (.v (Rep.same e2.ext h2) r2)⟩
  · cases hf
noncomputable def dvD:DV→Option D
  | .v d=>some d
  | .own o _=>some o.d
  | .bor _=>none
noncomputable def callV (m:List DV→Option DV) (g:DF→Option (List DV)):DF→Option D:=fun ρ=>(g ρ).bind fun xs=>(m xs).bind dvD
noncomputable def dvO:DV→Option OD
  | .own o _=>some o
  | _=>none
noncomputable def callO (m:List DV→Option DV) (g:DF→Option (List DV)):DF→Option OD:=fun ρ=>(g ρ).bind fun xs=>(m xs).bind dvO
theorem gd_new {F H:Hp} {F':Hp} {a:Addr} (e:Same F F') (h1:F' a=none) (h2:gd F H a=none):H a=none:=by
  unfold gd at h2
  have:F a=none:=by
    cases q:F a with
    | none=>rfl
    | some o=>rw [e a o q] at h1; cases h1
  rw [this] at h2
  exact h2
theorem ret_own {K:PySem.W.Frag} {F1 H1 F2 H2:Hp} {o:OD} {a:Addr} (e2:Same F1 F2) (h:ORep K F2 H2 (fun b=>F2 b=none∧gd F1 H1 b=none∧anyA b) o a):ORep K F2 H2 (fun b=>H1 b=none∧F2 b=none) o a:=
  h.mono (Same.refl _) fun b u q hb=>⟨hb,gd_new e2 q.1 q.2.1,q.1⟩
theorem tCall_v {K:PySem.W.Frag} {m:List DV→Option DV} {g:DF→Option (List DV)} {E:XK}:∀ σ H Q,tD K (callV m g) σ H Q→tCall (spD K m) [] E (tLV K g) σ H Q:=fun σ H Q=>un7 fun P F ρ d hf I k=>by
  unfold callV at hf
  cases q:g ρ with
  | none=>rw [q] at hf; cases hf
  | some xs=>
    rw [q,Option.bind_some] at hf
    cases q2:m xs with
    | none=>rw [q2] at hf; cases hf
    | some x=>
      rw [q2,Option.bind_some] at hf
      refine ⟨P,F,ρ,xs,q,I,fun vs F1 H1 e1 r1=>?_⟩
      have I1:=I.evo e1
      refine ⟨gd F1 H1,F1,xs,x,q2,gd_hp I1.sub,by rw [List.append_nil]; exact r1.dvs I1,fun v F2 H2 e2 hp2 r2=>?_⟩
      have ev:Evo P F1 H1 F2 H2:=I1.toDHp.gd e2 hp2
      cases x with
      | v d'=>cases hf; exact k v F2 H2 (e1.trans ev) r2
      | own o t=>
        cases hf
        obtain ⟨a,rfl,ho,_⟩:=r2
        have ho':=ret_own e2 ho
        exact k _ _ H2 (e1.trans (ev.freeze I1.toDHp (fun b=>H1 b=none∧F2 b=none) fun _ q=>q)) (ho'.rep (frzH_same fun b q=>q.2) fun b u q hb=>by rw [frzH_yes q]; exact hb)
      | bor o=>cases hf
theorem tCall_o {K:PySem.W.Frag} {m:List DV→Option DV} {g:DF→Option (List DV)} {E:XK}:∀ σ H Q,tO K (callO m g) σ H Q→tCall (spD K m) [] E (tLV K g) σ H Q:=fun σ H Q=>un7 fun P F ρ d hf I k=>by
  unfold callO at hf
  cases q:g ρ with
  | none=>rw [q] at hf; cases hf
  | some xs=>
    rw [q,Option.bind_some] at hf
    cases q2:m xs with
    | none=>rw [q2] at hf; cases hf
    | some x=>
      rw [q2,Option.bind_some] at hf
      refine ⟨P,F,ρ,xs,q,I,fun vs F1 H1 e1 r1=>?_⟩
      have I1:=I.evo e1
      refine ⟨gd F1 H1,F1,xs,x,q2,gd_hp I1.sub,by rw [List.append_nil]; exact r1.dvs I1,fun v F2 H2 e2 hp2 r2=>?_⟩
      have ev:Evo P F1 H1 F2 H2:=I1.toDHp.gd e2 hp2
      cases x with
      | own o t=>
        cases hf
        obtain ⟨a,rfl,ho,_⟩:=r2
        exact k a F2 H2 (e1.trans ev) ((ret_own e2 ho).mono (Same.refl _) fun b u q hb=>⟨hb,e1.back I.toDHp q.1,q.2⟩)
      | _=>cases hf
section
variable {k:Nat} {f:Addr} {fd:FuncData} {ps:List Str} {m:List DV→Option DV} {x:Str} {p:Pos} {g:DF→Option (List DV)}
theorem pd_call (F:FnOk X.prog X.w X.K X.mg X.base CX0 k f fd ps (spD X.K m)) (hr:Room k X.A) (hg:Gl X x) (hm:X.mg x=some (.ref f)) (hk:PySem.W.keepIn X.K (.ref f)=true) (hb:Binds X.K fd ps []) (ha:PDAV X (e::es) g)
    (hd:(x == ("__debug__":Str))=false:=by decide) (he:starEach (e::es) X.env=(false,eval e X.env)::starEach es X.env:=by rfl) (hpl:(backTo pos (starEach es X.env)).any (·.1)=false:=by rfl):PDE X (.Call (.Name x p) (e::es) [] pos) (callV m g):=
  (pe_call F hr hg hm hk hb .nil pass0 ha hd he hpl).imp tCall_v
theorem pdo_call (F:FnOk X.prog X.w X.K X.mg X.base CX0 k f fd ps (spD X.K m)) (hr:Room k X.A) (hg:Gl X x) (hm:X.mg x=some (.ref f)) (hk:PySem.W.keepIn X.K (.ref f)=true) (hb:Binds X.K fd ps []) (ha:PDAV X (e::es) g)
    (hd:(x == ("__debug__":Str))=false:=by decide) (he:starEach (e::es) X.env=(false,eval e X.env)::starEach es X.env:=by rfl) (hpl:(backTo pos (starEach es X.env)).any (·.1)=false:=by rfl):PDO X (.Call (.Name x p) (e::es) [] pos) (callO m g):=
  (pe_call F hr hg hm hk hb .nil pass0 ha hd he hpl).imp tCall_o
end
end
noncomputable def capV:Option DV→Option DV
  | some (.v d)=>some (.v d)
  | some (.own o _)=>some (.bor o)
  | some (.bor o)=>some (.bor o)
  | _=>none
noncomputable def capD (own:Nat) (ix:List Nat) (ρ:DF):DF:=List.replicate own none++ix.map fun j=>capV (ρ[j]?).join
noncomputable def mapD (st:D→DF→Option DF) (c:DF→Option Bool) (e:DF→Option D) (ρ:DF):List D→Option (List D)
  | []=>some []
  | d::ds=>(st d ρ).bind fun ρ1=>(c ρ1).bind fun b=>if b=true then (e ρ1).bind fun y=>(mapD st c e ρ ds).map fun r=>y::r else mapD st c e ρ ds
noncomputable def dComp (own:Nat) (ix:List Nat) (it:DF→Option (List D)) (st:D→DF→Option DF) (c:DF→Option Bool) (e:DF→Option D):DF→Option (List D):=
  fun ρ=>(it ρ).bind fun ds=>if ds.length≤16777216 then mapD st c e (capD own ix ρ) ds else none
noncomputable def dYes:DF→Option Bool:=fun _=>some true
theorem capD_get {own:Nat} {ix:List Nat} {ρ:DF} {i:Nat} {x:DV} (h:(capD own ix ρ)[i]?=some (some x)):own≤i∧∃ j y,ix[i - own]?=some j∧ρ[j]?=some (some y)∧capV (some y)=some x:=by
  unfold capD at h
  by_cases hi:i < own
  · rw [List.getElem?_append_left (by rw [List.length_replicate]; exact hi),List.getElem?_replicate,if_pos hi] at h
    cases h
  · rw [List.getElem?_append_right (by rw [List.length_replicate]; omega),List.length_replicate,List.getElem?_map] at h
    refine ⟨by omega,?_⟩
    cases q:ix[i - own]? with
    | none=>rw [q] at h; cases h
    | some j=>
      rw [q,Option.map_some] at h
      have h':=Option.some.inj h
      cases q2:ρ[j]? with
      | none=>rw [q2] at h'; cases h'
      | some o=>
        rw [q2,Option.join_some] at h'
        cases o with
        | none=>cases h'
        | some y=>exact ⟨j,y,rfl,q2,h'⟩
theorem capSt_at {own:Nat} {ix:List Nat} {σ:St} {i j:Nat} {v:V} (hi:own≤i) (h:ix[i - own]?=some j) (hv:σ[j]?=some (some v)):(capSt own ix σ)[i]?=some (some v):=by
  unfold capSt
  rw [List.getElem?_append_right (by rw [List.length_replicate]; exact hi),List.length_replicate,List.getElem?_map,h,Option.map_some,hv]
  rfl
theorem DInv.cap {K:PySem.W.Frag} {P F H:Hp} {ρ:DF} {σ:St} (I:DInv K P F H ρ σ) (own:Nat) (ix:List Nat):DInv K (gd F H) F H (capD own ix ρ) (capSt own ix σ):=by
  refine ⟨gd_hp I.sub,?_,fun _=>none,fun i x h=>?_⟩
  · rw [capSt_len]
    unfold capD
    rw [List.length_append,List.length_replicate,List.length_map]
  · obtain ⟨hi,j,y,h1,h2,h3⟩:=capD_get h
    obtain ⟨v,q1,q2⟩:=I.at h2
    refine ⟨v,capSt_at hi h1 q1,?_⟩
    have bo:∀ o,((∃ t,ρ[j]?=some (some (.own o t)))∨ρ[j]?=some (some (.bor o)))→DVRep K (gd F H) F H (fun b=>none=some i) (.bor o) v:=fun o ho=>by
      obtain ⟨a,rfl,h3⟩:=I.slot q1 ho
      exact ⟨a,rfl,h3.mono (Same.refl _) fun b u q hb=>⟨gd_eq.mpr ⟨q,hb⟩,trivial⟩⟩
    cases y with
    | v d=>cases h3; exact q2
    | own o t=>cases h3; exact bo o (.inl ⟨t,h2⟩)
    | bor o=>cases h3; exact bo o (.inr h2)
theorem cap_keep {K:PySem.W.Frag} {G F H F2 H2:Hp} {own:Nat} {ix:List Nat} {ρ:DF} {τ:St} (B:DInv K G F H (capD own ix ρ) τ) (e:Same F F2) (hp:DHp G F2 H2):DInv K G F2 H2 (capD own ix ρ) τ:=by
  obtain ⟨O,h⟩:=B.rep
  refine ⟨hp,B.len,O,fun i x hx=>?_⟩
  obtain ⟨v,h1,h2⟩:=h i x hx
  refine ⟨v,h1,?_⟩
  cases x with
  | v d=>exact Rep.same e h2
  | bor o=>obtain ⟨a,rfl,h3⟩:=h2; exact ⟨a,rfl,h3.mono e fun b u q hb=>⟨hb,q⟩⟩
  | own o t=>(obtain ⟨_,j,y,_,_,h3⟩:=capD_get hx; cases y <;> cases h3)
section
variable {X:Cx} {elt tg iter:Expr} {ifs:List Expr} {scope:Scope} {pos:Pos} {N:List Str} {own:Nat} {ix is:List Nat} {f:DF→Option (List D)} {st:D→DF→Option DF} {c:DF→Option Bool} {e:DF→Option D}
theorem tO_comp {K:PySem.W.Frag} (his:∀ j∈is,j < own):∀ σ H Q,tO K (asL (dComp own ix f st c e)) σ H Q→tComp own ix (tI K f) (tG K is st) (tB' K c) (tD K e) σ H Q:=fun σ H Q=>un7 fun P F ρ ob hf I k=>by
  unfold asL at hf
  cases hout:dComp own ix f st c e ρ with
  | none=>rw [hout] at hf; cases hf
  | some out=>
  rw [hout] at hf
  cases hf
  have hf:=hout
  unfold dComp at hf
  cases q:f ρ with
  | none=>rw [q] at hf; cases hf
  | some ds=>
    rw [q,Option.bind_some] at hf
    split at hf
    rotate_left
    · cases hf
    rename_i hlen
    refine ⟨P,F,ρ,ds,q,I,fun J F1 H1 ev ok acc hacc=>?_⟩
    have I1:=I.evo ev
    have hp1:DHp (gd F1 H1) F1 H1:=gd_hp I1.sub
    have hg:gd F1 H1 acc=none:=by unfold gd; rw [I1.sub.free hacc]; exact hacc
    have B1:DInv K (gd F1 H1) F1 H1 (capD own ix ρ) (capSt own ix σ):=I1.cap own ix
    have hP:∀ {F' H':Hp},Same F1 F'→DHp (gd F1 H1) F' H'→DHp P F' H':=fun s h=>(I1.toDHp.gd s h).hp
    refine ⟨fun i m ys H'=>m=ds.length - i∧i≤ds.length∧∃ F',Same F1 F'∧DHp (gd F1 H1) F' H'∧F' acc=none∧H' acc=some (.lst ys)∧ys.length≤i∧∃ pre,Reps K F' ys pre∧(mapD st c e (capD own ix ρ) (ds.drop i)).map (fun r=>pre++r)=some out,
      ⟨_,rfl,Nat.zero_le _,F1,Same.refl _,(Evo.side hp1 hacc).hp,I1.sub.free hacc,upd_same,Nat.le_refl _,[],.nil,by rw [List.drop_zero,hf]; rfl⟩,?_⟩
    rintro i m ys H' ⟨rfl,hi,F',se,hp',fa,ha,hy,pre,rp,hm⟩
    obtain ⟨ok1,ok2⟩:=ok F' H' se (hP se hp') i
    by_cases hlt:i < ds.length
    · have hd:ds[i]?=some ds[i]:=List.getElem?_eq_getElem hlt
      obtain ⟨go,yl⟩:=ok1 _ hd
      have hdrop:ds.drop i=ds[i]::ds.drop (i + 1):=List.drop_eq_getElem_cons hlt
      rw [hdrop] at hm
      unfold mapD at hm
      cases hst:st ds[i] (capD own ix ρ) with
      | none=>rw [hst] at hm; cases hm
      | some ρ1=>
        rw [hst,Option.bind_some] at hm
        refine .inr ⟨go,fun ys' H2=>∃ F2,Same F1 F2∧DHp (gd F1 H1) F2 H2∧F2 acc=none∧H2 acc=some (.lst ys')∧ys'.length≤i + 1∧∃ pre',Reps K F2 ys' pre'∧(mapD st c e (capD own ix ρ) (ds.drop (i + 1))).map (fun r=>pre'++r)=some out,
          fun ys' H2 h=>⟨ds.length - (i + 1),by omega,rfl,hlt,h⟩,fun x H2 hyl=>?_⟩
        obtain ⟨F2,ev2,rx⟩:=yl x H2 hyl
        have ev2':Evo (gd F1 H1) F' H' F2 H2:=ev2.change hp'
        obtain ⟨a2,fa2⟩:=ev2'.keep acc _ ha fa
        have B2:DInv K (gd F1 H1) F2 H2 (capD own ix ρ) (capSt own ix σ):=cap_keep B1 (se.trans ev2.ext) ev2'.hp
        refine ⟨gd F1 H1,F2,capD own ix ρ,ds[i],ρ1,hst,B2,rx,fun σ3 F3 H3 ev3 I3 hl3 hσ=>?_⟩
        refine ⟨⟨?_,fun j v hj=>?_⟩,?_⟩
        · rw [hl3,capSt_len]
        · rw [hσ j]
          · exact hj
          · intro hj'
            obtain ⟨ho,_⟩:=capSt_get hj
            have:=his j hj'
            omega
        obtain ⟨a3,fa3⟩:=ev3.keep acc _ a2 fa2
        cases hc:c ρ1 with
        | none=>rw [hc] at hm; cases hm
        | some b=>
          rw [hc,Option.bind_some] at hm
          refine ⟨gd F1 H1,F3,ρ1,b,hc,I3,fun F4 H4 ev4=>?_⟩
          obtain ⟨a4,fa4⟩:=ev4.keep acc _ a3 fa3
          have s14:Same F' F4:=ev2.ext.trans (ev3.ext.trans ev4.ext)
          cases b with
          | false=>
            rw [if_neg Bool.false_ne_true] at hm ⊢
            exact ⟨F4,se.trans s14,ev4.hp,fa4,a4,by omega,pre,rp.same s14,hm⟩
          | true=>
            rw [if_pos rfl] at hm ⊢
            cases he:e ρ1 with
            | none=>rw [he] at hm; cases hm
            | some y=>
              rw [he,Option.bind_some] at hm
              refine ⟨gd F1 H1,F4,ρ1,y,he,I3.evo ev4,fun v F5 H5 ev5 rv=>?_⟩
              obtain ⟨a5,fa5⟩:=ev5.keep acc _ a4 fa4
              have s15:Same F' F5:=s14.trans ev5.ext
              refine ⟨a5,by rw [sizeLine_eq]; omega,F5,se.trans s15,⟨fun b u h=>by rw [upd_ne (ne_of_none h fa5)]; exact ev5.hp.sub b u h,fun b u h=>by rw [upd_ne (ne_of_none h hg)]; exact ev5.hp.pro b u h,ev5.hp.dis⟩,fa5,upd_same,by rw [List.length_append,List.length_singleton]; omega,pre++[y],(rp.same s15).append (.one rv),?_⟩
              cases hmm:mapD st c e (capD own ix ρ) (ds.drop (i + 1)) with
              | none=>rw [hmm] at hm; cases hm
              | some r=>
                rw [hmm] at hm
                simp only [Option.map_some] at hm ⊢
                rw [List.append_assoc]
                exact hm
    · have hz:ds.drop i=[]:=List.drop_eq_nil_of_le (by omega)
      rw [hz] at hm
      unfold mapD at hm
      rw [Option.map_some,List.append_nil] at hm
      cases hm
      exact .inl ⟨ok2 (by omega),k acc F' H' (ev.trans (I1.toDHp.gd se hp')) ⟨⟨ev.back I.toDHp hacc,fa⟩,_,ha,rp⟩⟩
theorem pdo_comp (hcalm:X.calm=true) (b:BlkScope X scope) (cp:Caps X scope N own ix) (his:∀ j∈is,j < own) (hi:PDI X tg iter f)
    (hg:∀ s H fp pins,PDG (blk X scope N s H fp pins) tg is st) (hc:∀ s H fp pins,PIfs (blk X scope N s H fp pins) ifs (tB' X.K c)) (he:∀ s H fp pins,PDE (blk X scope N s H fp pins) elt e)
    (hnames:∀ y∈scope.names,y.2=.local→scope.names.lookup y.1=some .local:=by decide)
    (hs:∀ x,foldedSetIterable iter X.env x=pure x:=by intro _; rfl):PDO X (.ListComp elt [⟨tg,iter,ifs,0⟩] scope pos) (asL (dComp own ix f st c e)):=
  (pe_comp (g:=tG X.K is st) (tc:=tB' X.K c) (te:=tD X.K e) hcalm b cp hi hg hc he hnames hs).imp (tO_comp his)
end
section
variable {X:Cx} {e a b c:Expr} {es:List Expr} {pos:Pos}
noncomputable def LenIs (n:Nat) (f:DF→Option (List D)):Prop:=∀ ρ ds,f ρ=some ds→ds.length=n
noncomputable def PDL (X:Cx) (es:List Expr) (n:Nat) (f:DF→Option (List D)):Prop:=PDA X es f∧LenIs n f
noncomputable def lnil:DF→Option (List D):=fun _=>some []
noncomputable def lcons (f:DF→Option D) (g:DF→Option (List D)):DF→Option (List D):=fun ρ=>(f ρ).bind fun d=>(g ρ).map fun r=>d::r
theorem pdl_nil:PDL X [] 0 lnil:=⟨PA.imp pa_nil fun σ H Q=>un7 fun P F ρ xs hf I k=>by
  cases hf
  exact k [] F H (Evo.refl I.toDHp) .nil,fun ρ ds h=>by cases h; rfl⟩
theorem pdl_cons {f:DF→Option D} {n:Nat} {g:DF→Option (List D)} (h:PDE X e f) (hr:PDL X es n g) (hs:starEach (e::es) X.env=(false,eval e X.env)::starEach es X.env:=by rfl):PDL X (e::es) (n + 1) (lcons f g):=
  ⟨PA.imp (pa_cons h hr.1 hs) fun σ H Q=>un7 fun P F ρ xs hf I k=>by
    unfold lcons at hf
    cases q:f ρ with
    | none=>rw [q] at hf; cases hf
    | some d=>
      rw [q,Option.bind_some] at hf
      cases q2:g ρ with
      | none=>rw [q2] at hf; cases hf
      | some ys=>
        rw [q2] at hf
        cases hf
        exact ⟨P,F,ρ,d,q,I,fun v F1 H1 e1 r1=>⟨P,F1,ρ,ys,q2,I.evo e1,fun vs F2 H2 e2 r2=>k (v::vs) F2 H2 (e1.trans e2) (.cons (r1.same e2.ext) r2)⟩⟩,fun ρ ds hf=>by
    unfold lcons at hf
    cases q:f ρ with
    | none=>rw [q] at hf; cases hf
    | some d=>
      rw [q,Option.bind_some] at hf
      cases q2:g ρ with
      | none=>rw [q2] at hf; cases hf
      | some ys=>
        rw [q2] at hf
        cases hf
        rw [List.length_cons,hr.2 ρ ys q2]⟩
noncomputable def asT (f:DF→Option (List D)):DF→Option D:=fun ρ=>(f ρ).map .tup
theorem pd_tup {x1} {n:Nat} {f:DF→Option (List D)} (h:PDL X es n f) (hn:n≤16777216:=by decide):PDE X (.Tuple es x1 pos) (asT f):=(pe_tup h.1).imp fun σ H Q=>un7 fun P F ρ d hf I k=>by
  unfold asT at hf
  cases q:f ρ with
  | none=>rw [q] at hf; cases hf
  | some ds=>
    rw [q] at hf
    cases hf
    refine ⟨P,F,ρ,ds,q,I,fun vs F1 H1 e1 r1=>⟨by rw [r1.length,h.2 ρ ds q,sizeLine_eq]; exact hn,fun p hp=>?_⟩⟩
    exact k (.ref p) _ _ (e1.trans (Evo.laid e1.hp hp)) (.tup upd_same (r1.same (same_upd (e1.hp.free hp).1)))
theorem pdo_lst {n:Nat} {f:DF→Option (List D)} (h:PDL X es n f) (hn:n≤16777216:=by decide):PDO X (.List es pos) (asL f):=(pe_lst h.1).imp fun σ H Q=>un7 fun P F ρ ob hf I k=>by
  unfold asL at hf
  cases q:f ρ with
  | none=>rw [q] at hf; cases hf
  | some ds=>
  rw [q] at hf
  cases hf
  refine ⟨P,F,ρ,ds,q,I,fun vs F1 H1 e1 r1=>⟨by rw [r1.length,h.2 ρ ds q,sizeLine_eq]; exact hn,fun p hp=>?_⟩⟩
  exact k p F1 _ (e1.trans (Evo.side e1.hp hp)) ⟨⟨e1.back I.toDHp hp,(e1.hp.free hp).1⟩,_,upd_same,r1⟩
theorem Reps.atI {K:PySem.W.Frag} {F:Hp} {vs:List V} {ds:List D} {i:Int} {d:D} (r:Reps K F vs ds) (h:atI ds i=some d):∃ v,atI vs i=some v∧Rep K F v d:=by
  unfold L2.atI at h ⊢
  rw [r.length]
  cases q:ixN ds.length i with
  | none=>rw [q] at h; cases h
  | some j=>
    rw [q,Option.bind_some] at h
    obtain ⟨v,h1,h2⟩:=r.get h
    exact ⟨v,h1,h2⟩
noncomputable def ixD:D→D→Option D
  | .lst ds,.int i=>atI ds i
  | .tup ds,.int i=>atI ds i
  | .str z,.int i=>if z.length≤16777216 then (atI z.cps.toList i).map fun c=>.str ⟨#[c]⟩ else none
  | _,_=>none
theorem od_ix {K:PySem.W.Frag}:OpD2 K (rIx K) ixD:=by
  intro P F H ρ σ x y dx dy d Q hf I rx ry k
  unfold ixD at hf
  split at hf
  · obtain ⟨p,vs,rfl,h1,h2⟩:=rep_lst I rx
    obtain ⟨v,h3,h4⟩:=h2.atI hf
    exact .inl ⟨p,vs,_,v,rfl,rep_int ry,h1,h3,k v F H (Evo.refl I.toDHp) h4⟩
  · obtain ⟨p,vs,rfl,h1,h2⟩:=rep_tup I rx
    obtain ⟨v,h3,h4⟩:=h2.atI hf
    exact .inr (.inl ⟨p,vs,_,v,rfl,rep_int ry,h1,h3,k v F H (Evo.refl I.toDHp) h4⟩)
  · split at hf
    · rename_i z i hz
      cases q:atI z.cps.toList i with
      | none=>rw [q] at hf; cases hf
      | some c=>
        rw [q] at hf
        cases hf
        exact .inr (.inr ⟨z,i,c,rep_str rx,rep_int ry,by rw [sizeLine_eq]; exact hz,q,k _ F H (Evo.refl I.toDHp) .str⟩)
    · cases hf
  · cases hf
theorem pd_ix {fa fb:DF→Option D} (ha:PDR X a fa) (hb:PDR X b fb) (hs:PlainIx b:=by exact fun _ _=>rfl):PDE X (.Subscript a b pos) (d2 ixD fa fb):=(pe_ix ix_seq ha hb hs).imp (tOp_d2 od_ix)
noncomputable def rAddD:R2:=fun x y H Q=>(∃ i j,x=.int i∧y=.int j∧Q (.int (i + j)) H)∨∃ i j,x=.str i∧y=.str j∧i.length + j.length≤sizeLine∧Q (.str (i++j)) H
theorem pt_gt {fa fb:DF→Option D} (ha:PDR X a fa) (hb:PDR X b fb):PDT X (.Compare a [.Gt] [b] pos) (asB (d2 gtI fa fb)):=pt_cmpD op_gt (od_int0 fun _ _ _=>.bl) ha hb (nomark _)
noncomputable def andT (f g:DF→Option Bool):DF→Option Bool:=fun ρ=>(f ρ).bind fun b=>if b=true then g ρ else some false
noncomputable def orT (f g:DF→Option Bool):DF→Option Bool:=fun ρ=>(f ρ).bind fun b=>if b=true then some true else g ρ
noncomputable def notT (f:DF→Option Bool):DF→Option Bool:=fun ρ=>(f ρ).map fun b=>!b
noncomputable def PDW (X:Cx) (e:Expr) (f:DF→Option Bool):Prop:=PW X e (tB' X.K f)
theorem PDW.t {f:DF→Option Bool} (h:PDW X e f):PDT X e f:=PW.pt h
theorem PW.imp {t t':TT} (h:PW X e t) (i:∀ σ H Q,t' σ H Q→t σ H Q):PW X e t':=fun w pins s σ H Q I q=>h w pins s σ H Q I (i σ H Q q)
theorem pw_and1D {f:DF→Option Bool} (h:PDT X a f):PDW X (.BoolOp .And [a] pos) f:=pw_and1 h
theorem pw_or1D {f:DF→Option Bool} (h:PDT X a f):PDW X (.BoolOp .Or [a] pos) f:=pw_or1 h
theorem pw_andD {rest:List Expr} {f g:DF→Option Bool} (ha:PDT X a f) (hb:PDW X (.BoolOp .And (b::rest) pos) g):PDW X (.BoolOp .And (a::b::rest) pos) (andT f g):=PW.imp (pw_and ha hb) fun σ H Q=>un7 fun P F ρ r hf I k=>by
  unfold andT at hf
  cases q:f ρ with
  | none=>rw [q] at hf; cases hf
  | some x=>
    rw [q,Option.bind_some] at hf
    refine ⟨P,F,ρ,x,q,I,fun F1 H1 e1=>?_⟩
    cases x with
    | true=>rw [if_pos rfl] at hf ⊢; exact ⟨P,F1,ρ,r,hf,I.evo e1,fun F2 H2 e2=>k F2 H2 (e1.trans e2)⟩
    | false=>rw [if_neg Bool.false_ne_true] at hf ⊢; cases hf; exact k F1 H1 e1
theorem pw_orD {rest:List Expr} {f g:DF→Option Bool} (ha:PDT X a f) (hb:PDW X (.BoolOp .Or (b::rest) pos) g):PDW X (.BoolOp .Or (a::b::rest) pos) (orT f g):=PW.imp (pw_or ha hb) fun σ H Q=>un7 fun P F ρ r hf I k=>by
  unfold orT at hf
  cases q:f ρ with
  | none=>rw [q] at hf; cases hf
  | some x=>
    rw [q,Option.bind_some] at hf
    refine ⟨P,F,ρ,x,q,I,fun F1 H1 e1=>?_⟩
    cases x with
    | true=>rw [if_pos rfl] at hf ⊢; cases hf; exact k F1 H1 e1
    | false=>rw [if_neg Bool.false_ne_true] at hf ⊢; exact ⟨P,F1,ρ,r,hf,I.evo e1,fun F2 H2 e2=>k F2 H2 (e1.trans e2)⟩
theorem pt_notD {f:DF→Option Bool} (ha:PDT X a f):PDT X (.UnaryOp .Not a pos) (notT f):=(pt_not ha).imp fun σ H Q=>un7 fun P F ρ r hf I k=>by
  unfold notT at hf
  cases q:f ρ with
  | none=>rw [q] at hf; cases hf
  | some x=>rw [q] at hf; cases hf; exact ⟨P,F,ρ,x,q,I,fun F1 H1 e1=>k F1 H1 e1⟩
noncomputable def andV (f g:DF→Option D):DF→Option D:=fun ρ=>match f ρ with
  | some (.bl true)=>g ρ
  | some (.bl false)=>some (.bl false)
  | _=>none
noncomputable def notV (f:DF→Option D):DF→Option D:=fun ρ=>match f ρ with
  | some (.bl b)=>some (.bl (!b))
  | _=>none
theorem pd_one {op} {f:DF→Option D} (h:PDE X a f):PDE X (.BoolOp op [a] pos) f:=pe_one h
theorem pd_and {rest:List Expr} {f g:DF→Option D} (ha:PDE X a f) (hb:PDE X (.BoolOp .And (b::rest) pos) g):PDE X (.BoolOp .And (a::b::rest) pos) (andV f g):=(pe_and ha hb).imp fun σ H Q=>un7 fun P F ρ r hf I k=>by
  unfold andV at hf
  split at hf
  · rename_i q
    refine ⟨P,F,ρ,_,q,I,fun v F1 H1 e1 r1=>?_⟩
    cases r1
    exact ⟨true,rfl,by rw [if_pos rfl]; exact ⟨P,F1,ρ,r,hf,I.evo e1,fun v F2 H2 e2 r2=>k v F2 H2 (e1.trans e2) r2⟩⟩
  · rename_i q
    refine ⟨P,F,ρ,_,q,I,fun v F1 H1 e1 r1=>?_⟩
    cases r1
    cases hf
    exact ⟨false,rfl,by rw [if_neg Bool.false_ne_true]; exact k _ F1 H1 e1 .bl⟩
  · cases hf
theorem pd_not {f:DF→Option D} (ha:PDE X a f):PDE X (.UnaryOp .Not a pos) (notV f):=(pe_not ha).imp fun σ H Q=>un7 fun P F ρ r hf I k=>by
  unfold notV at hf
  split at hf
  · rename_i q
    cases hf
    refine ⟨P,F,ρ,_,q,I,fun v F1 H1 e1 r1=>?_⟩
    cases r1
    exact ⟨_,rfl,k _ F1 H1 e1 .bl⟩
  · cases hf
noncomputable def ifV (c:DF→Option Bool) (f g:DF→Option D):DF→Option D:=fun ρ=>(c ρ).bind fun b=>if b=true then f ρ else g ρ
theorem pd_ifE {fc:DF→Option Bool} {f g:DF→Option D} (hc:PDT X c fc) (ha:PDE X a f) (hb:PDE X b g):PDE X (.IfExp c a b pos) (ifV fc f g):=(pe_ifExp hc ha hb).imp fun σ H Q=>un7 fun P F ρ r hf I k=>by
  unfold ifV at hf
  cases q:fc ρ with
  | none=>rw [q] at hf; cases hf
  | some x=>
    rw [q,Option.bind_some] at hf
    refine ⟨P,F,ρ,x,q,I,fun F1 H1 e1=>?_⟩
    cases x with
    | true=>rw [if_pos rfl] at hf ⊢; exact ⟨P,F1,ρ,r,hf,I.evo e1,fun v F2 H2 e2 r2=>k v F2 H2 (e1.trans e2) r2⟩
    | false=>rw [if_neg Bool.false_ne_true] at hf ⊢; exact ⟨P,F1,ρ,r,hf,I.evo e1,fun v F2 H2 e2 r2=>k v F2 H2 (e1.trans e2) r2⟩
noncomputable def OpD1 (K:PySem.W.Frag) (r:List V→Hp→VK→Prop) (f:D→Option D):Prop:=
  ∀ (P F H:Hp) (ρ:DF) (σ:St) (x:V) (dx d:D) (Q:VK),f dx=some d→DInv K P F H ρ σ→RepS K ρ σ F x dx→(∀ v F' H',Evo P F H F' H'→Rep K F' v d→Q v H')→r [x] H Q
noncomputable def d1 (f:D→Option D) (fa:DF→Option D):DF→Option D:=fun ρ=>(fa ρ).bind f
theorem tCB_d1 {K:PySem.W.Frag} {r:List V→Hp→VK→Prop} {f:D→Option D} {fa:DF→Option D} (ho:OpD1 K r f):∀ σ H Q,tD K (d1 f fa) σ H Q→tCB r (tCons (tR K fa) tNil) σ H Q:=fun σ H Q=>un7 fun P F ρ d hf I k=>by
  unfold d1 at hf
  cases ha:fa ρ with
  | none=>rw [ha] at hf; cases hf
  | some dx=>
    rw [ha,Option.bind_some] at hf
    exact ⟨P,F,ρ,dx,ha,I,fun x F1 H1 e1 rx=>ho P F1 H1 ρ σ x dx d Q hf (I.evo e1) rx fun v F2 H2 e2 rv=>k v F2 H2 (e1.trans e2) rv⟩
noncomputable def lenD:D→Option D
  | .lst ds=>some (.int ds.length)
  | .tup ds=>some (.int ds.length)
  | .str z=>if z.length≤16777216 then some (.int z.length) else none
  | _=>none
noncomputable def rLenD (K:PySem.W.Frag):List V→Hp→VK→Prop:=fun xs H Q=>(∃ p ys,xs=[.ref p]∧(SqL K H p ys∨SqT K H p ys)∧Q (.int ys.length) H)∨∃ z,xs=[.str z]∧z.length≤sizeLine∧Q (.int z.length) H
end
mutual
noncomputable def toPy:D→PyData
  | .non=>.none
  | .bl b=>.bool b
  | .int i=>.int i
  | .str x=>.str x
  | .tup xs=>.tuple (toPys xs)
  | .lst xs=>.list (toPys xs)
  | .dT _=>.none
  | .dK _=>.none
  | .ins _ _=>.none
noncomputable def toPys:List D→List PyData
  | []=>[]
  | d::ds=>toPy d::toPys ds
end
noncomputable def okN:Nat→D→Bool
  | _,.non=>true
  | _,.bl _=>true
  | _,.int _=>true
  | _,.str x=>PyData.strOk x
  | n + 1,.tup xs=>xs.all (okN n)
  | n + 1,.lst xs=>xs.all (okN n)
  | _,_=>false
theorem okN_all {n:Nat}:∀ {ds:List D},ds.all (okN n)=true→∀ d∈ds,okN n d=true:=fun h d hd=>List.all_eq_true.mp h d hd
theorem okN_lay:∀ (n:Nat) (d:D),okN n d=true→(toPy d).canLay0=true∧(toPy d).depth≤n + 1:=by
  intro n
  induction n with
  | zero=>
    intro d h
    cases d with
    | non=>exact ⟨rfl,by simp [toPy,PyData.depth]⟩
    | bl b=>exact ⟨rfl,by simp [toPy,PyData.depth]⟩
    | int b=>exact ⟨rfl,by simp [toPy,PyData.depth]⟩
    | str b=>exact ⟨h,by simp [toPy,PyData.depth]⟩
    | _=>cases h
  | succ n ih=>
    have all:∀ ds:List D,ds.all (okN n)=true→PyData.canLayAll0 (toPys ds)=true∧PyData.depthAll (toPys ds)≤n + 1:=by
      intro ds
      induction ds with
      | nil=>intro _; exact ⟨rfl,by simp [toPys,PyData.depthAll]⟩
      | cons x r ihr=>
        intro h
        rw [List.all_cons,Bool.and_eq_true] at h
        obtain ⟨h1,h2⟩:=ih x h.1
        obtain ⟨h3,h4⟩:=ihr h.2
        refine ⟨?_,?_⟩
        · show (PyData.canLay0 (toPy x)&&PyData.canLayAll0 (toPys r))=true
          rw [h1,h3]; rfl
        · show PyData.depthAll (toPy x::toPys r)≤n + 1
          simp only [PyData.depthAll]
          lia
    intro d h
    cases d with
    | non=>exact ⟨rfl,by simp [toPy,PyData.depth]⟩
    | bl b=>exact ⟨rfl,by simp [toPy,PyData.depth]⟩
    | int b=>exact ⟨rfl,by simp [toPy,PyData.depth]⟩
    | str b=>exact ⟨h,by simp [toPy,PyData.depth]⟩
    | tup xs=>
      obtain ⟨h1,h2⟩:=all xs h
      exact ⟨h1,by simp only [toPy,PyData.depth]; lia⟩
    | lst xs=>
      obtain ⟨h1,h2⟩:=all xs h
      exact ⟨h1,by simp only [toPy,PyData.depth]; lia⟩
    | _=>cases h
section
variable {X:Cx} {pins:List (Addr×Obj)} {σ:St} {H:Hp} {s:Shared}
theorem Reps.readsOf {n:Nat} (ih:∀ {v:V} {d:D} {u:Value},Rep X.K H v d→okN n d=true→RelV v u→∃ as,Reads s.heap u (toPy d) as) {vs:List V} {ds:List D} (h:Reps X.K H vs ds):∀ us:List Value,(∀ d∈ds,okN n d=true)→Vals vs us→∃ as,ReadsAll s.heap us (toPys ds) as:=
  Reps.ind (M:=fun vs ds=>∀ us:List Value,(∀ d∈ds,okN n d=true)→Vals vs us→∃ as,ReadsAll s.heap us (toPys ds) as) (fun us _ r=>by cases r; exact ⟨_,.nil⟩) (fun h _ i us ho r=>by
    cases r with
    | cons r t=>
      obtain ⟨a1,r1⟩:=ih h (ho _ List.mem_cons_self) r
      obtain ⟨a2,r2⟩:=i _ (fun d hd=>ho d (List.mem_cons_of_mem _ hd)) t
      exact ⟨_,.cons r1 r2⟩) h
theorem Rep.reads1 (I:Inv X pins σ H s) (n:Nat) (ih:∀ m,n=m + 1→∀ {v:V} {d:D} {u:Value},Rep X.K H v d→okN m d=true→RelV v u→∃ as,Reads s.heap u (toPy d) as) {v:V} {d:D} {u:Value} (h:Rep X.K H v d) (ho:okN n d=true) (r:RelV v u):∃ as,Reads s.heap u (toPy d) as:=by
  cases h with
  | non=>cases (show u=Value.none from r); exact ⟨_,.none⟩
  | bl=>cases (show u=Value.bool _ from r); exact ⟨_,.bool _⟩
  | int=>obtain ⟨t,rfl⟩:=(show ∃ t,u=Value.int _ t from r); exact ⟨_,.int _ _⟩
  | str=>obtain ⟨t,rfl⟩:=(show ∃ t,u=Value.str _ t from r); exact ⟨_,.str _ _⟩
  | tup h q=>
    cases n with
    | zero=>cases ho
    | succ m=>
      cases (show u=Value.ref _ from r)
      obtain ⟨its,rv,ht,_⟩:=I.tuple (SqT.of h)
      obtain ⟨as,ra⟩:=Reps.readsOf (ih m rfl) q _ (okN_all ho) rv
      obtain ⟨o,h1,h2,m,h3⟩:=ht
      exact ⟨_,.tuple h1 h2 h3 (by simpa using ra)⟩
  | lst h q=>
    cases n with
    | zero=>cases ho
    | succ m=>
      cases (show u=Value.ref _ from r)
      obtain ⟨its,rv,ht,_⟩:=I.list h
      obtain ⟨as,ra⟩:=Reps.readsOf (ih m rfl) q _ (okN_all ho) rv
      obtain ⟨o,m,h1,h2,_,h3⟩:=ht
      exact ⟨_,.list h1 h2 h3 (by simpa using ra)⟩
  | _=>cases n <;> cases ho
theorem Rep.reads (I:Inv X pins σ H s) (n:Nat):∀ {v:V} {d:D} {u:Value},Rep X.K H v d→okN n d=true→RelV v u→∃ as,Reads s.heap u (toPy d) as:=by
  induction n with
  | zero=>exact fun h ho r=>Rep.reads1 I 0 (fun m e=>by cases e) h ho r
  | succ n ih=>exact fun h ho r=>Rep.reads1 I (n + 1) (fun m e=>by cases e; exact ih) h ho r
end
noncomputable def eqd (x y:D):Bool:=PyData.eqv (toPy x) (toPy y)
noncomputable def eqD (x y:D):Option D:=if (okN 30 x&&okN 30 y)=true then some (.bl (eqd x y)) else none
noncomputable def neD (x y:D):Option D:=if (okN 30 x&&okN 30 y)=true then some (.bl (!eqd x y)) else none
noncomputable def rEqD (K:PySem.W.Frag) (g:Bool→Bool):R2:=fun x y H Q=>∃ dx dy,Rep K H x dx∧Rep K H y dy∧okN 30 dx=true∧okN 30 dy=true∧Q (.bl (g (eqd dx dy))) H
section
variable {X:Cx} {e a b c:Expr} {es:List Expr} {pos:Pos}
theorem op_eqD (hu:X.A.units + 64 < cLine):OpR X (compareOp .Eq) (rEqD X.K fun b=>b):=by
  intro pins s σ H x y v u Q I rx ry h
  obtain ⟨dx,dy,h1,h2,o1,o2,q⟩:=h
  obtain ⟨a1,r1⟩:=h1.reads I 30 o1 rx
  obtain ⟨a2,r2⟩:=h2.reads I 30 o2 ry
  obtain ⟨l1,p1⟩:=okN_lay 30 dx o1
  obtain ⟨l2,p2⟩:=okN_lay 30 dy o2
  refine PySem.SeqAt.compareEq_shaped r1 r2 ?_ ?_ hu ⟨.bl _,H,I,rfl,q⟩
  · unfold PySem.SeqAt.shaped; rw [l1,Bool.true_and,decide_eq_true_eq]; lia
  · unfold PySem.SeqAt.shaped; rw [l2,Bool.true_and,decide_eq_true_eq]; lia
theorem op_neD (hu:X.A.units + 64 < cLine):OpR X (compareOp .NotEq) (rEqD X.K fun b=>!b):=by
  intro pins s σ H x y v u Q I rx ry h
  obtain ⟨dx,dy,h1,h2,o1,o2,q⟩:=h
  obtain ⟨a1,r1⟩:=h1.reads I 30 o1 rx
  obtain ⟨a2,r2⟩:=h2.reads I 30 o2 ry
  obtain ⟨l1,p1⟩:=okN_lay 30 dx o1
  obtain ⟨l2,p2⟩:=okN_lay 30 dy o2
  refine PySem.SeqAt.compareNe_shaped r1 r2 ?_ ?_ hu ⟨.bl _,H,I,rfl,q⟩
  · unfold PySem.SeqAt.shaped; rw [l1,Bool.true_and,decide_eq_true_eq]; lia
  · unfold PySem.SeqAt.shaped; rw [l2,Bool.true_and,decide_eq_true_eq]; lia
theorem od_eqD {K:PySem.W.Frag}:OpN2 K (rEqD K fun b=>b) eqD:=by
  intro P F H x y dx dy d Q hf hp rx ry k
  unfold eqD at hf
  split at hf
  · rename_i h
    rw [Bool.and_eq_true] at h
    cases hf
    exact ⟨dx,dy,rx,ry,h.1,h.2,k _ F H (Evo.refl hp) .bl⟩
  · cases hf
theorem od_neD {K:PySem.W.Frag}:OpN2 K (rEqD K fun b=>!b) neD:=by
  intro P F H x y dx dy d Q hf hp rx ry k
  unfold neD at hf
  split at hf
  · rename_i h
    rw [Bool.and_eq_true] at h
    cases hf
    exact ⟨dx,dy,rx,ry,h.1,h.2,k _ F H (Evo.refl hp) .bl⟩
  · cases hf
theorem pd_eq {fa fb:DF→Option D} (hu:X.A.units + 64 < cLine) (ha:PDN X a fa) (hb:PDN X b fb):PDE X (.Compare a [.Eq] [b] pos) (d2 eqD fa fb):=pn_cmp (op_eqD hu) od_eqD ha hb (nomark _)
theorem pd_ne {fa fb:DF→Option D} (hu:X.A.units + 64 < cLine) (ha:PDN X a fa) (hb:PDN X b fb):PDE X (.Compare a [.NotEq] [b] pos) (d2 neD fa fb):=pn_cmp (op_neD hu) od_neD ha hb (nomark _)
theorem pt_eq {fa fb:DF→Option D} (hu:X.A.units + 64 < cLine) (ha:PDN X a fa) (hb:PDN X b fb):PDT X (.Compare a [.Eq] [b] pos) (asB (d2 eqD fa fb)):=ptn_cmp (op_eqD hu) od_eqD ha hb (nomark _)
theorem pt_ne {fa fb:DF→Option D} (hu:X.A.units + 64 < cLine) (ha:PDN X a fa) (hb:PDN X b fb):PDT X (.Compare a [.NotEq] [b] pos) (asB (d2 neD fa fb)):=ptn_cmp (op_neD hu) od_neD ha hb (nomark _)
noncomputable def itemsD:D→Option (List D)
  | .lst ds=>some ds
  | .tup ds=>some ds
  | _=>none
noncomputable def notinD (x y:D):Option D:=(itemsD y).bind fun ds=>if (okN 30 x&&ds.all (okN 29))=true then some (.bl (!ds.any fun z=>eqd z x)) else none
noncomputable def rInD (K:PySem.W.Frag) (g:Bool→Bool):R2:=fun x y H Q=>∃ dx dy ds,Rep K H x dx∧Rep K H y dy∧itemsD dy=some ds∧okN 30 dx=true∧ds.all (okN 29)=true∧Q (.bl (g (ds.any fun z=>eqd z dx))) H
theorem toPys_any (x:D):∀ ds:List D,(toPys ds).any (fun y=>PyData.eqv y (toPy x))=ds.any fun z=>eqd z x
  | []=>rfl
  | d::ds=>by
    show ((PyData.eqv (toPy d) (toPy x))||(toPys ds).any _)=_
    rw [toPys_any x ds]
    rfl
theorem op_notinD (hu:X.A.units + 64 < cLine):OpR X (compareOp .NotIn) (rInD X.K fun b=>!b):=by
  intro pins s σ H x y v u Q I rx ry h
  obtain ⟨dx,dy,ds,h1,h2,hi,o1,o2,q⟩:=h
  obtain ⟨a1,r1⟩:=h1.reads I 30 o1 rx
  obtain ⟨l1,p1⟩:=okN_lay 30 dx o1
  have hm:min (PyData.depthAll (toPys ds)) (toPy dx).depth≤31:=Nat.le_trans (Nat.min_le_right _ _) p1
  cases dy with
  | lst xs=>
    cases hi
    obtain ⟨a2,r2⟩:=h2.reads I 30 (d:=.lst ds) o2 ry
    obtain ⟨l2,p2⟩:=okN_lay 30 (.lst ds) o2
    exact PySem.SeqAt.notIn_list_reads r2 r1 l2 l1 (by lia) ⟨.bl _,H,I,(by show Value.bool _=Value.bool _; rw [toPys_any]),q⟩
  | tup xs=>
    cases hi
    obtain ⟨a2,r2⟩:=h2.reads I 30 (d:=.tup ds) o2 ry
    obtain ⟨l2,p2⟩:=okN_lay 30 (.tup ds) o2
    exact PySem.SeqAt.notIn_tuple_reads r2 r1 l2 l1 (by lia) ⟨.bl _,H,I,(by show Value.bool _=Value.bool _; rw [toPys_any]),q⟩
  | _=>cases hi
theorem od_notinD {K:PySem.W.Frag}:OpN2 K (rInD K fun b=>!b) notinD:=by
  intro P F H x y dx dy d Q hf hp rx ry k
  unfold notinD at hf
  cases q:itemsD dy with
  | none=>rw [q] at hf; cases hf
  | some ds=>
    rw [q,Option.bind_some] at hf
    split at hf
    · rename_i h
      rw [Bool.and_eq_true] at h
      cases hf
      exact ⟨dx,dy,ds,rx,ry,q,h.1,h.2,k _ F H (Evo.refl hp) .bl⟩
    · cases hf
theorem pt_notin {fa fb:DF→Option D} (hu:X.A.units + 64 < cLine) (ha:PDN X a fa) (hb:PDN X b fb) (hm:behindInMarks .NotIn b=false:=by with_unfolding_all rfl):PDT X (.Compare a [.NotIn] [b] pos) (asB (d2 notinD fa fb)):=ptn_cmp (op_notinD hu) od_notinD ha hb hm
end
section
variable {X:Cx} {tg e a b l:Expr} {pos p:Pos}
noncomputable def lstOf (f:DF→Option D):DF→Option (List D):=fun ρ=>match f ρ with
  | some (.lst ds)=>some ds
  | _=>none
theorem lstOf_eq {f:DF→Option D} {ρ:DF} {ds:List D} (h:lstOf f ρ=some ds):f ρ=some (.lst ds):=by
  unfold lstOf at h
  split at h
  · rename_i q; cases h; exact q
  · cases h
theorem itOk_list {K:PySem.W.Frag} {P F:Hp} {a:Addr} {vs:List V} {ds:List D} (h:SqL K F a vs) (r:Reps K F vs ds):ItOk K P (Itl K a) F ds:=by
  intro F' H' e hp i
  have hv:SqL K H' a vs:=hp.sub.seq (e.seq h)
  refine ⟨fun d hd=>?_,fun hl=>⟨vs,hv,by rw [r.length]; exact hl⟩⟩
  obtain ⟨v,h1,h2⟩:=r.get hd
  refine ⟨⟨vs,v,hv,h1⟩,fun x H2 hy=>?_⟩
  obtain ⟨rfl,hx⟩:=hy
  have:=hx vs hv
  rw [h1] at this
  cases this
  exact ⟨F',Evo.refl hp,h2.same e⟩
theorem pdi_lst {f:DF→Option D} (h:PDE X l f):PDI X tg l (lstOf f):=PI.imp (pi_list h) fun σ H R=>un7 fun P F ρ ds hf I k=>by
  refine ⟨P,F,ρ,_,lstOf_eq hf,I,fun v F' H' ev rv=>?_⟩
  cases rv with
  | lst h1 h2=>exact ⟨_,rfl,⟨_,ev.hp.sub.seq h1⟩,k _ F' H' ev (itOk_list h1 h2)⟩
noncomputable def borOf (i:Nat):DF→Option (List D):=fun ρ=>match ρ[i]? with
  | some (some (.bor (.lst ds)))=>some ds
  | some (some (.v (.lst ds)))=>some ds
  | _=>none
theorem itOk_bor {K:PySem.W.Frag} {P F:Hp} {a:Addr} {vs:List V} {ds:List D} (h:P a=some (.lst vs)) (r:Reps K F vs ds):ItOk K P (Itl K a) F ds:=by
  intro F' H' e hp i
  have hv:SqL K H' a vs:=SqL.of (hp.pro _ _ h)
  refine ⟨fun d hd=>?_,fun hl=>⟨vs,hv,by rw [r.length]; exact hl⟩⟩
  obtain ⟨v,h1,h2⟩:=r.get hd
  refine ⟨⟨vs,v,hv,h1⟩,fun x H2 hy=>?_⟩
  obtain ⟨rfl,hx⟩:=hy
  have:=hx vs hv
  rw [h1] at this
  cases this
  exact ⟨F',Evo.refl hp,h2.same e⟩
theorem pdi_bor (i:Nat) (h:PE X l (tVar i)):PDI X tg l (borOf i):=PI.imp (pi_list h) fun σ H R=>un7 fun P F ρ ds hf I k=>by
  unfold borOf at hf
  split at hf
  · rename_i ds' q
    cases hf
    obtain ⟨v,h1,a,rfl,_,u,h3,h4⟩:=I.at q
    cases u with
    | lst vs=>exact ⟨_,h1,a,rfl,⟨vs,SqL.of (I.pro _ _ h3)⟩,k _ F H (Evo.refl I.toDHp) (itOk_bor h3 h4)⟩
    | _=>exact h4.elim
  · rename_i ds' q
    cases hf
    obtain ⟨v,h1,h2⟩:=I.at q
    cases h2 with
    | lst h3 h4=>exact ⟨_,h1,_,rfl,⟨_,I.sub.seq h3⟩,k _ F H (Evo.refl I.toDHp) (itOk_list h3 h4)⟩
  · cases hf
noncomputable def rangeL (lo:Int) (n:Nat):List D:=(List.range n).map fun i:Nat=>.int (lo + (i:Int))
theorem rangeL_get {lo:Int} {n i:Nat} {d:D} (h:(rangeL lo n)[i]?=some d):i < n∧d=.int (lo + (i:Int)):=by
  unfold rangeL at h
  rw [List.getElem?_map] at h
  by_cases hi:i < n
  · rw [List.getElem?_range hi,Option.map_some] at h
    cases h
    exact ⟨hi,rfl⟩
  · rw [List.getElem?_eq_none (by rw [List.length_range]; lia)] at h
    cases h
theorem rangeL_len (lo:Int) (n:Nat):(rangeL lo n).length=n:=by unfold rangeL; rw [List.length_map,List.length_range]
theorem itOk_range {K:PySem.W.Frag} {P F:Hp} (lo:Int) (n:Nat):ItOk K P (Itr lo n) F (rangeL lo n):=by
  intro F' H' e hp i
  refine ⟨fun d hd=>?_,fun hl=>by rw [rangeL_len] at hl; exact hl⟩
  obtain ⟨hi,rfl⟩:=rangeL_get hd
  refine ⟨hi,fun x H2 hy=>?_⟩
  obtain ⟨rfl,rfl⟩:=hy
  exact ⟨F',Evo.refl hp,.int⟩
noncomputable def rng1 (f:DF→Option D):DF→Option (List D):=fun ρ=>match f ρ with
  | some (.int j)=>if -(2 ^ 62)≤j∧j < 2 ^ 62 then some (rangeL 0 j.toNat) else none
  | _=>none
noncomputable def rng2 (f g:DF→Option D):DF→Option (List D):=fun ρ=>match f ρ,g ρ with
  | some (.int i),some (.int j)=>if -(2 ^ 62)≤i∧i < 2 ^ 62∧-(2 ^ 62)≤j∧j < 2 ^ 62 then some (rangeL i (j - i).toNat) else none
  | _,_=>none
theorem pdi_range1 {f:DF→Option D} (hg:Gl X "range") (hm:X.mg "range"=none) (ha:PDR X a f) (hs:starEach [a] X.env=[(false,eval a X.env)]:=by rfl):PDI X tg (.Call (.Name "range" p) [a] [] pos) (rng1 f):=
  PI.imp (pi_range1 hg hm (pa_cons ha pa_nil hs) hs) fun σ H R=>un7 fun P F ρ ds hf I k=>by
    unfold rng1 at hf
    split at hf
    · rename_i j q
      split at hf
      · rename_i hj
        cases hf
        refine ⟨P,F,ρ,_,q,I,fun v F1 H1 e1 r1=>⟨j,by rw [rep_int r1],hj.1,hj.2,k _ F1 H1 e1 (itOk_range 0 _)⟩⟩
      · cases hf
    · cases hf
theorem pdi_range2 {f g:DF→Option D} (hg:Gl X "range") (hm:X.mg "range"=none) (ha:PDR X a f) (hb:PDR X b g) (hs:starEach [a,b] X.env=[(false,eval a X.env),(false,eval b X.env)]:=by rfl) (hs2:starEach [b] X.env=[(false,eval b X.env)]:=by rfl):PDI X tg (.Call (.Name "range" p) [a,b] [] pos) (rng2 f g):=
  PI.imp (pi_range2 hg hm (pa_cons ha (pa_cons hb pa_nil hs2) (by rw [hs,hs2])) hs hs2) fun σ H R=>un7 fun P F ρ ds hf I k=>by
    unfold rng2 at hf
    split at hf
    · rename_i i j q1 q2
      split at hf
      · rename_i hj
        cases hf
        refine ⟨P,F,ρ,_,q1,I,fun v F1 H1 e1 r1=>⟨P,F1,ρ,_,q2,I.evo e1,fun v2 F2 H2 e2 r2=>⟨i,j,by rw [rep_int r1,rep_int r2],hj,k _ F2 H2 (e1.trans e2) (itOk_range i _)⟩⟩⟩
      · cases hf
    · cases hf
noncomputable def setsV:List Nat→List D→DF→Option DF
  | [],[],ρ=>some ρ
  | i::is,d::ds,ρ=>setsV is ds (ρ.set i (some (.v d)))
  | _,_,_=>none
noncomputable def setT (is:List Nat) (d:D) (ρ:DF):Option DF:=match d with
  | .tup ds=>setsV is ds ρ
  | _=>none
noncomputable def gNames:List Nat→TGs
  | []=>gNil
  | i::is=>gCons (gName i) (gNames is)
theorem gNames_ok {K:PySem.W.Frag} {P F H:Hp} {Q:St→Hp→Prop}:∀ (is:List Nat) (vs:List V) (ds:List D) (ρ ρ':DF) (σ:St),Reps K F vs ds→setsV is ds ρ=some ρ'→DInv K P F H ρ σ→
    (∀ σ',DInv K P F H ρ' σ'→σ'.length=σ.length→(∀ j,j∉is→σ'[j]?=σ[j]?)→Q σ' H)→gNames is vs σ H Q
  | [],vs,ds,ρ,ρ',σ,r,hs,I,k=>by
    cases r with
    | nil=>cases hs; exact ⟨rfl,k σ I rfl fun _ _=>rfl⟩
    | cons _ _=>cases hs
  | i::is,vs,ds,ρ,ρ',σ,r,hs,I,k=>by
    cases r with
    | nil=>cases hs
    | cons h q=>
      refine ⟨_,_,rfl,gNames_ok is _ _ _ ρ' _ q hs (I.setV i h) fun σ' I' hl hj=>k σ' I' (by rw [hl,List.length_set]) fun j hn=>?_⟩
      rw [hj j (fun z=>hn (List.mem_cons_of_mem _ z)),List.getElem?_set_ne (fun z=>hn (by rw [z]; exact List.mem_cons_self))]
theorem setsV_len:∀ (is:List Nat) (ds:List D) (ρ ρ':DF),setsV is ds ρ=some ρ'→ds.length=is.length
  | [],[],_,_,_=>rfl
  | [],_::_,_,_,h=>by cases h
  | _::_,[],_,_,h=>by cases h
  | i::is,d::ds,ρ,ρ',h=>by rw [List.length_cons,List.length_cons,setsV_len is ds _ _ h]
theorem pdg_tup {es:List Expr} {k:Nat} {is:List Nat} (hc:X.calm=true) (h:PGs X es (gNames is)) (hn:(assignEach es X.env).length=is.length:=by rfl) (hst:(assignEach es X.env).findIdx? (·.1)=none:=by rfl):PDG X (.Tuple es k pos) is (setT is):=
  PG.imp (pg_tup (n:=is.length) hc h hn hst) fun v σ H Q hh_=>by
    obtain ⟨P,F,ρ,d,ρ',hs,I,r,kk⟩:=hh_
    cases d with
    | tup ds=>
      cases r with
      | tup h1 h2=>
        exact ⟨_,_,rfl,SqT.of (I.sub _ _ h1),by rw [h2.length]; exact setsV_len is ds ρ ρ' hs,gNames_ok is _ ds ρ ρ' σ h2 hs I fun σ' I' hl hj=>kk σ' F H (Evo.refl I.toDHp) I' hl hj⟩
    | _=>cases hs
noncomputable def dSetT (is:List Nat) (f:DF→Option D):DF→Option RES:=fun ρ=>(f ρ).bind fun d=>(setT is d ρ).map .nx
theorem pd_setT {es:List Expr} {k:Nat} {pos':Pos} {is:List Nat} {f:DF→Option D} (hg:PDG X (.Tuple es k pos') is (setT is)) (he:PDE X e f) (hs:swapsWithSole [.Tuple es k pos'] e pos.line X.env=pure false:=by rfl) (hw:swappedStores [.Tuple es k pos'] e X.env=pure none:=by rfl)
    (h1:(assignEach [.Tuple es k pos'] X.env).map (·.2)=[assign (.Tuple es k pos') X.env]:=by rfl):PD1 X (.Assign [.Tuple es k pos'] e pos) (dSetT is f):=PS.imp (ps_asg he hg hs hw h1) fun E σ H=>un7 fun P F ρ r hr I kk=>by
  unfold dSetT at hr
  cases q:f ρ with
  | none=>rw [q] at hr; cases hr
  | some d=>
    rw [q,Option.bind_some] at hr
    cases q2:setT is d ρ with
    | none=>rw [q2] at hr; cases hr
    | some ρ'=>
      rw [q2] at hr
      cases hr
      exact ⟨P,F,ρ,d,q,I,fun v F1 H1 e1 r1=>⟨P,F1,ρ,d,ρ',q2,I.evo e1,r1,fun σ' F2 H2 e2 I2 _ _=>kk σ' F2 H2 (e1.ext.trans e2.ext) I2⟩⟩
end
theorem DInv.mut {K:PySem.W.Frag} {P F H:Hp} {ρ:DF} {σ:St} (I:DInv K P F H ρ σ) {i:Nat} {o o':OD} {t:Option Addr} {a:Addr} {u:HO} (h:ρ[i]?=some (some (.own o t))) (hf:o.flat=true) (hf':o'.flat=true) (hs:σ[i]?=some (some (.ref a))) (hr:ORep1 K F o' u) :
    DInv K P F (upd H a u) (ρ.set i (some (.own o' t))) σ:=by
  obtain ⟨O,hR⟩:=I.rep
  obtain ⟨v,h1,b,rfl,h2,ht⟩:=hR i _ h
  rw [hs] at h1; cases h1
  obtain ⟨⟨q1,q2,q3⟩,u',q4,_⟩:=(ORep.flat hf).mp h2
  refine ⟨⟨fun c w e=>by rw [upd_ne (ne_of_none e q1)]; exact I.sub c w e,fun c w e=>by rw [upd_ne (ne_of_none e q2)]; exact I.pro c w e,I.dis⟩,by rw [List.length_set]; exact I.len,O,fun j z hj=>?_⟩
  rcases set_get hj with ⟨rfl,e,hl⟩ | ⟨hij,hj'⟩
  · cases e
    exact ⟨_,hs,a,rfl,(ORep.flat hf').mpr ⟨⟨q1,q2,q3⟩,u,upd_same,hr⟩,ht⟩
  · obtain ⟨w,e1,e2⟩:=hR j z hj'
    refine ⟨w,e1,?_⟩
    cases z with
    | v d'=>exact e2
    | own od t'=>(obtain ⟨c,rfl,e3,ht'⟩:=e2; exact ⟨c,rfl,e3.mono (Same.refl _) fun b w' q hb=>⟨by rw [upd_ne (fun z=>by subst z; rw [q.2.2] at q3; exact hij (Option.some.inj q3).symm)]; exact hb,q⟩,ht'⟩)
    | bor od=>exact e2
section
variable {X:Cx} {o e:Expr} {pos apos cpos:Pos}
noncomputable def dApp (i:Nat) (f:DF→Option D):DF→Option RES:=fun ρ=>match ρ[i]? with
  | some (some (.own (.lst ds) t))=>(f ρ).bind fun d=>if ds.length < 16777216 then some (.nx (ρ.set i (some (.own (.lst (ds++[d])) t)))) else none
  | _=>none
theorem own_at {K:PySem.W.Frag} {P F H:Hp} {ρ:DF} {σ:St} (I:DInv K P F H ρ σ) {i:Nat} {ds:List D} {t:Option Addr} (q:ρ[i]?=some (some (.own (.lst ds) t))):∃ a vs,σ[i]?=some (some (.ref a))∧F a=none∧P a=none∧H a=some (.lst vs)∧Reps K F vs ds:=by
  obtain ⟨v,h1,a,rfl,⟨⟨q1,q2,_⟩,u,q3,q4⟩,_⟩:=I.at q
  cases u with
  | lst vs=>exact ⟨a,vs,h1,q1,q2,q3,q4⟩
  | _=>exact q4.elim
theorem pd_append (i:Nat) {f:DF→Option D} (h:PE X o (tVar i)) (ha:PDE X e f) (hbase:attributeBase o "append" X.env (eval o X.env)=eval o X.env:=by rfl)
    (hfew:((backTo cpos (starEach [e] X.env)).all (fun x=>!x.1)&&(backToKw cpos (keywordEach [] X.env)).all (fun x=>x.1.isSome)
      && decide (([e]:List Expr).length + ([]:List Keyword).length + (if ([]:List Keyword).isEmpty then 0 else 1) < 30))=true:=by rfl)
    (hline:(apos.endLine == cpos.line)=true:=by rfl) (hs:starEach [e] X.env=[(false,eval e X.env)]:=by rfl) (hsw:swapsWith (.Call (.Attribute o "append" apos) [e] [] cpos) none pos.line X.env=pure false:=by rfl) :
    PD1 X (.Expr (.Call (.Attribute o "append" apos) [e] [] cpos) pos) (dApp i f):=
  PS.imp (ps_expr (pe_bm PySem.F.plainAttrs_list PySem.F.slot_list_append PySem.F.type_list_append mt_append h (pa_cons ha pa_nil hs) hbase hfew hline hs rfl) hsw) fun E σ H=>un7 fun P F ρ r hr I k=>by
    unfold dApp at hr
    split at hr
    · rename_i ds t q
      cases q2:f ρ with
      | none=>rw [q2] at hr; cases hr
      | some d=>
        rw [q2,Option.bind_some] at hr
        split at hr
        · rename_i hl
          cases hr
          obtain ⟨a,vs,h1,h2,h3,h4,h5⟩:=own_at I q
          refine ⟨_,h1,.inl ⟨rfl,vs,SqL.of h4⟩,P,F,ρ,d,q2,I,fun v F1 H1 e1 r1=>?_⟩
          obtain ⟨k1,k2⟩:=e1.keep a _ h4 h2
          have I1:=I.evo e1
          refine ⟨a,vs,v,rfl,rfl,k1,by rw [sizeLine_eq,h5.length]; exact hl,k σ F1 _ e1.ext ?_⟩
          exact I1.mut (o':=.lst _) (u:=.lst _) q rfl rfl h1 ((h5.same e1.ext).append (.one r1))
        · cases hr
    · cases hr
end
mutual
noncomputable def ltD:D→D→Bool
  | .int i,.int j=>decide (i < j)
  | .bl a,.bl b=>!a&&b
  | .str x,.str y=>decide (x.cps.toList < y.cps.toList)
  | .tup xs,.tup ys=>lexD xs ys
  | _,_=>false
noncomputable def lexD:List D→List D→Bool
  | [],[]=>false
  | [],_::_=>true
  | _::_,[]=>false
  | x::xs,y::ys=>if eqd x y=true then lexD xs ys else ltD x y
end
mutual
noncomputable def cmpOk:D→D→Bool
  | .int _,.int _=>true
  | .bl _,.bl _=>true
  | .str _,.str _=>true
  | .tup xs,.tup ys=>cmpOks xs ys
  | _,_=>false
noncomputable def cmpOks:List D→List D→Bool
  | x::xs,y::ys=>cmpOk x y&&cmpOks xs ys
  | _,_=>true
end
noncomputable def LtAt (A:Around) (s:Shared) (y x:Value) (b:Bool):Prop:=
  ∀ (prog:Program) (w:World) (E:Value→Shared→Prop) (Q:Value→Shared→Prop),Q (.bool b) s→wpAny (model prog w) A (richCompare .Lt y x) Q E s
inductive LexOk (A:Around) (s:Shared):List Value→List Value→List D→List D→Prop
  | nl {ws:List Value} {es:List D}:ws.length=es.length→LexOk A s [] ws [] es
  | nr {vs:List Value} {ds:List D}:vs.length=ds.length→LexOk A s vs [] ds []
  | cons {v w:Value} {d e:D} {vs ws:List Value} {ds es:List D}:SeqAt.EqAt A s v w (eqd d e)→(eqd d e=false→LtAt A s v w (ltD d e))→LexOk A s vs ws ds es→LexOk A s (v::vs) (w::ws) (d::ds) (e::es)
theorem LexOk.len {A:Around} {s:Shared} {vs ws:List Value} {ds es:List D} (h:LexOk A s vs ws ds es):vs.length=ds.length∧ws.length=es.length:=by
  induction h with
  | nl h=>exact ⟨rfl,h⟩
  | nr h=>exact ⟨h,rfl⟩
  | cons _ _ _ ih=>exact ⟨congrArg Nat.succ ih.1,congrArg Nat.succ ih.2⟩
section
open PySem.SeqAt
open PySem.AutoSeq1 (wpAny_loadPart')
open PySem.MeetsSeq PySem.MeetsSeq2 PySem.MeetsSeq3
theorem tuple_lt_gen (l b:Addr) (items items2:Array Value) (n n2:Nat) (dd dd2:Option Addr) (sl sl2:Array (Option Value)) (ds es:List D) :
    Meets (Builtin.«tuple.__lt__» ⟨[.ref l,.ref b],[]⟩)
      (fun A R s=>LexOk A.in1 s items.toList items2.toList ds es∧s.heap.get? l=some { cls:=.type "tuple",dict:=dd,data:=.seq items n,slots:=sl }∧s.heap.get? b=some { cls:=.type "tuple",dict:=dd2,data:=.seq items2 n2,slots:=sl2 } ∧
        R (.ok (.ret (.bool (lexD ds es)))) s):=
  .of_wp fun prog w A R s h=>by
    obtain ⟨hp,g,d,tk,os⟩:=s; obtain ⟨hlex,hl,hb,h⟩:=h
    have f2:=AutoSeq1.sub_tuple_tuple
    have z1:items.size=ds.length:=by rw [← hlex.len.1]; simp
    have z2:items2.size=es.length:=by rw [← hlex.len.2]; simp
    wp_walk using wpAny_loadPart' hl,wpAny_loadPart' hb,wpAny_forIn_list _ (fun rest b s'=>b.1=none∧s'=⟨hp,g,d,tk,os⟩∧∃ (vs ws:List Value) (ds' es':List D),rest=vs.zip ws ∧
      LexOk A.in1 ⟨hp,g,d,tk,os⟩ vs ws ds' es'∧ds'.length + items2.size=es'.length + items.size∧R (.ok (.ret (.bool (lexD ds' es')))) ⟨hp,g,d,tk,os⟩) _
    case turn=>
      rintro ⟨y,x⟩ rest b s' ⟨hb',rfl,vs,ws,ds',es',hz,hx,hlen,hR⟩
      cases hx with
      | nl _=>rw [List.zip_nil_left] at hz; cases hz
      | nr _=>rw [List.zip_nil_right] at hz; cases hz
      | @cons v w' dd' ee' vs' ws' ds'' es'' he hlt hx'=>
        rw [List.zip_cons_cons] at hz
        injection hz with hyx hrest
        injection hyx with hy hxx
        subst hy hxx
        simp only [List.length_cons] at hlen
        refine wpAny_bind (he prog w _ _ ?_)
        cases q:eqd dd' ee' with
        | true=>
          have hR':R (.ok (.ret (.bool (lexD ds'' es'')))) ⟨hp,g,d,tk,os⟩:=by
            rw [lexD,if_pos q] at hR; exact hR
          wp_walk
          exact ⟨rfl,rfl,_,_,_,_,hrest,hx',by lia,hR'⟩
        | false=>
          have hR':R (.ok (.ret (.bool (ltD dd' ee')))) ⟨hp,g,d,tk,os⟩:=by
            rw [lexD,if_neg (by rw [q]; exact Bool.false_ne_true)] at hR; exact hR
          have hri:=hlt q prog w
          wp_walk using hri
          exact ⟨_,rfl,by simpa using hR'⟩
    case fin=>
      rintro ⟨b1,b2⟩ s' ⟨hb',rfl,vs,ws,ds',es',hz,hx,hlen,hR⟩
      simp only at hb'
      subst hb'
      have hv:lexD ds' es'=decide (items.size < items2.size):=by
        cases hx with
        | nl hw=>
          cases es' with
          | nil=>
            simp only [List.length_nil] at hlen
            rw [show lexD [] []=false by simp [lexD]]
            exact (decide_eq_false (by lia)).symm
          | cons c u=>
            simp only [List.length_nil,List.length_cons] at hlen
            rw [show lexD [] (c::u)=true by simp [lexD]]
            exact (decide_eq_true (by lia)).symm
        | nr hw=>
          cases ds' with
          | nil=>
            simp only [List.length_nil] at hlen
            rw [show lexD [] []=false by simp [lexD]]
            exact (decide_eq_false (by lia)).symm
          | cons c u=>
            simp only [List.length_nil,List.length_cons] at hlen
            rw [show lexD (c::u) []=false by simp [lexD]]
            exact (decide_eq_false (by lia)).symm
        | cons _ _ _=>
          rw [List.zip_cons_cons] at hz
          cases hz
      rw [hv] at hR
      wp_walk
      exact ⟨_,rfl,by simpa [Builtin.Tuple.tupleCompareSizes] using hR⟩
    case h=>
      exact ⟨rfl,rfl,items.toList,items2.toList,ds,es,rfl,hlex,by lia,h⟩
end
theorem lt_tupGen {A:Around} {s:Shared} {l b:Addr} {items items2:Array Value} {ds es:List D} (hl:IsTup s.heap l items) (hb:IsTup s.heap b items2) (hx:LexOk A.in1 s items.toList items2.toList ds es) (hu:A.units < cLine) :
    LtAt A s (.ref l) (.ref b) (lexD ds es):=by
  intro prog w E Q h
  obtain ⟨⟨cls,dd,data,sl⟩,ho,hc,n,hd⟩:=id hl
  obtain ⟨⟨cls2,dd2,data2,sl2⟩,ho2,hc2,n2,hd2⟩:=id hb
  simp only at hc hd hc2 hd2
  subst hc hd hc2 hd2
  exact richCompare_meets_room (op:=.Lt) ⟨_,ho,rfl⟩ ⟨_,ho2,rfl⟩ PySem.F.slot_tuple_lt PySem.F.entry_tuple_lt (PySem.F.args_tuple_lt_2 _ _) (tuple_lt_gen l b items items2 n n2 dd dd2 sl sl2 ds es)
    ⟨hx,ho,ho2,show Value.bool (lexD ds es)≠Value.notImplemented∧Q (.bool (lexD ds es)) s from ⟨(fun x=>nomatch x),h⟩⟩ hu
section
variable {X:Cx} {pins:List (Addr×Obj)} {σ:St} {H:Hp} {s:Shared}
noncomputable def isTup:D→Bool
  | .tup _=>true
  | _=>false
theorem Rep.ltS (A:Around) {x y:V} {d e:D} {u w:Value} (h1:Rep X.K H x d) (h2:Rep X.K H y e) (c:cmpOk d e=true) (hd:isTup d=false) (r1:RelV x u) (r2:RelV y w):LtAt A s u w (ltD d e):=by
  cases d with
  | int i=>
    cases e with
    | int j=>
      cases h1; cases h2
      obtain ⟨t,rfl⟩:=(show ∃ t,u=Value.int _ t from r1)
      obtain ⟨t',rfl⟩:=(show ∃ t,w=Value.int _ t from r2)
      intro prog w' E Q h
      exact HT.rcLt_int A s _ _ _ _ prog w' E Q (by rw [ltD] at h; exact h)
    | _=>exact absurd c Bool.false_ne_true
  | bl b1=>
    cases e with
    | bl b2=>
      cases h1; cases h2
      cases (show u=Value.bool _ from r1)
      cases (show w=Value.bool _ from r2)
      intro prog w' E Q h
      exact (PyProof.Rows.lt_bool (by cases b1 <;> cases b2 <;> (rw [ltD] at h; exact h)):wpAny (model prog w') A (compareOp .Lt (.bool b1) (.bool b2)) Q E s)
    | _=>exact absurd c Bool.false_ne_true
  | str x1=>
    cases e with
    | str x2=>
      cases h1; cases h2
      obtain ⟨t,rfl⟩:=(show ∃ t,u=Value.str _ t from r1)
      obtain ⟨t',rfl⟩:=(show ∃ t,w=Value.str _ t from r2)
      intro prog w' E Q h
      exact (PyProof.Rows.lt_str (by rw [ltD] at h; exact h):wpAny (model prog w') A (compareOp .Lt (.str x1 t) (.str x2 t')) Q E s)
    | _=>exact absurd c Bool.false_ne_true
  | tup xs=>cases hd
  | _=>exact absurd c Bool.false_ne_true
theorem Reps.lex (I:Inv X pins σ H s) (n:Nat) (A:Around) (hu:A.units + n + 2 < cLine)
    (ih:∀ {x y:V} {d e:D} {u w:Value},Rep X.K H x d→Rep X.K H y e→okN n d=true→okN n e=true→cmpOk d e=true→RelV x u→RelV y w→LtAt A s u w (ltD d e)) :
    ∀ {xs ys:List V} {ds es:List D} {us ws:List Value},Reps X.K H xs ds→Reps X.K H ys es→(∀ d∈ds,okN n d=true)→(∀ d∈es,okN n d=true)→cmpOks ds es=true→Vals xs us→Vals ys ws→LexOk A s us ws ds es:=by
  intro xs ys ds
  induction ds generalizing xs ys with
  | nil=>
    intro es us ws q1 q2 _ _ _ r1 r2
    cases q1; cases r1
    exact .nl (by rw [← r2.length,q2.length])
  | cons d ds ihd=>
    intro es us ws q1 q2 o1 o2 c r1 r2
    cases es with
    | nil=>
      cases q2; cases r2
      exact .nr (by rw [← r1.length,q1.length])
    | cons e es=>
      cases q1 with
      | cons h q=>
        cases q2 with
        | cons h' q'=>
          cases r1 with
          | cons r t=>
            cases r2 with
            | cons r' t'=>
              rw [cmpOks,Bool.and_eq_true] at c
              have a1:=o1 _ List.mem_cons_self
              have a2:=o2 _ List.mem_cons_self
              obtain ⟨x1,p1⟩:=h.reads I n a1 r
              obtain ⟨x2,p2⟩:=h'.reads I n a2 r'
              obtain ⟨l1,m1⟩:=okN_lay n _ a1
              obtain ⟨l2,m2⟩:=okN_lay n _ a2
              refine .cons (PySem.SeqAt.eqAt_reads _ _ A s _ _ _ _ p1 p2 l1 l2 ?_) (fun _=>ih h h' a1 a2 c.1 r r') (ihd q q' (fun d hd=>o1 d (List.mem_cons_of_mem _ hd)) (fun d hd=>o2 d (List.mem_cons_of_mem _ hd)) c.2 t t')
              have:min (toPy d).depth (toPy e).depth≤n + 1:=Nat.le_trans (Nat.min_le_left _ _) m1
              lia
theorem Rep.lt (I:Inv X pins σ H s):∀ (n:Nat) (A:Around),A.units + n + 2 < cLine→∀ {x y:V} {d e:D} {u w:Value},Rep X.K H x d→Rep X.K H y e→okN n d=true→okN n e=true→cmpOk d e=true→RelV x u→RelV y w→LtAt A s u w (ltD d e):=by
  intro n
  induction n with
  | zero=>
    intro A hu x y d e u w h1 h2 o1 o2 c r1 r2
    refine h1.ltS A h2 c ?_ r1 r2
    cases d <;> first | rfl | (simp [okN] at o1)
  | succ n ihn=>
    intro A hu x y d e u w h1 h2 o1 o2 c r1 r2
    cases hd:isTup d with
    | false=>exact h1.ltS A h2 c hd r1 r2
    | true=>
      cases d with
      | tup ds=>
        cases e with
        | tup es=>
          cases h1 with
          | tup h1 q1=>
            cases h2 with
            | tup h2 q2=>
              cases (show u=Value.ref _ from r1)
              cases (show w=Value.ref _ from r2)
              obtain ⟨its1,rv1,ht1,_⟩:=I.tuple (SqT.of h1)
              obtain ⟨its2,rv2,ht2,_⟩:=I.tuple (SqT.of h2)
              rw [ltD]
              have hu':A.in1.units + n + 2 < cLine:=by show A.units + 1 + n + 2 < cLine; lia
              exact lt_tupGen ht1 ht2 (Reps.lex I n A.in1 hu' (ihn A.in1 hu') q1 q2 (okN_all o1) (okN_all o2) (by rw [cmpOk] at c; exact c) rv1 rv2) (by lia)
        | _=>exact absurd c Bool.false_ne_true
      | _=>cases hd
end
noncomputable def ltd (x y:D):Option D:=if (okN 30 x&&okN 30 y&&cmpOk x y)=true then some (.bl (ltD x y)) else none
noncomputable def rLtD (K:PySem.W.Frag):R2:=fun x y H Q=>∃ dx dy,Rep K H x dx∧Rep K H y dy∧okN 30 dx=true∧okN 30 dy=true∧cmpOk dx dy=true∧Q (.bl (ltD dx dy)) H
section
variable {X:Cx} {a b:Expr} {pos:Pos}
theorem op_ltD (hu:X.A.units + 64 < cLine):OpR X (compareOp .Lt) (rLtD X.K):=by
  intro pins s σ H x y v u Q I rx ry h
  obtain ⟨dx,dy,h1,h2,o1,o2,c,q⟩:=h
  exact Rep.lt I 30 X.A (by lia) h1 h2 o1 o2 c rx ry X.prog X.w X.xe _ ⟨.bl _,H,I,rfl,q⟩
theorem od_ltD {K:PySem.W.Frag}:OpN2 K (rLtD K) ltd:=by
  intro P F H x y dx dy d Q hf hp rx ry k
  unfold ltd at hf
  split at hf
  · rename_i h
    rw [Bool.and_eq_true,Bool.and_eq_true] at h
    cases hf
    exact ⟨dx,dy,rx,ry,h.1.1,h.1.2,h.2,k _ F H (Evo.refl hp) .bl⟩
  · cases hf
theorem pt_ltd {fa fb:DF→Option D} (hu:X.A.units + 64 < cLine) (ha:PDN X a fa) (hb:PDN X b fb):PDT X (.Compare a [.Lt] [b] pos) (asB (d2 ltd fa fb)):=ptn_cmp (op_ltD hu) od_ltD ha hb (nomark _)
end
end L2
namespace L2
open PySem PySem.Spec PyProof.Rows PySem.W
noncomputable def kok {α:Type} (n:Nat) (lt:Nat→Nat→Bool):KasT α→(α→Prop)→Prop
  | .ret a,Q=>Q a
  | .ask i j k,Q=>i < n∧j < n∧kok n lt (k (lt i j)) Q
theorem kok_bind {α β:Type} {n:Nat} {lt:Nat→Nat→Bool} {f:α→KasT β} {Q:β→Prop} (t:KasT α):kok n lt t (fun a=>kok n lt (f a) Q)→kok n lt (t.bind f) Q:=by
  induction t with
  | ret a=>exact fun h=>h
  | ask i j k ih=>exact fun h=>⟨h.1,h.2.1,ih _ h.2.2⟩
theorem kok_mono {α:Type} {n:Nat} {lt:Nat→Nat→Bool} {Q Q':α→Prop} (hq:∀ a,Q a→Q' a) (t:KasT α):kok n lt t Q→kok n lt t Q':=by
  induction t with
  | ret a=>exact hq a
  | ask i j k ih=>exact fun h=>⟨h.1,h.2.1,ih _ h.2.2⟩
theorem kok_wp {α:Type} {n:Nat} {lt:Nat→Nat→Bool} {cmp:Nat→Nat→(Bool→Shared→Prop)→Shared→Prop} {s:Shared} {Q:α→Prop} {G:α→Shared→Prop} (hc:∀ i j C,i < n→j < n→C (lt i j) s→cmp i j C s) (hG:∀ a,Q a→G a s) (t:KasT α):kok n lt t Q→t.kasWp cmp G s:=by
  induction t with
  | ret a=>exact hG a
  | ask i j k ih=>exact fun h=>hc i j _ h.1 h.2.1 (ih _ h.2.2)
structure Ord (lt:Nat→Nat→Bool):Prop where
  asym:∀ i j,lt i j=true→lt j i=false
  trans:∀ i j k,lt j i=false→lt k j=false→lt k i=false
section
variable {n:Nat} {lt:Nat→Nat→Bool}
structure PermN (n:Nat) (p:Array Nat):Prop where
  size:p.size=n
  perm:p.toList.Perm (List.range n)
theorem PermN.bd {p:Array Nat} (h:PermN n p) {i:Nat} (hi:i < n):p.getD i 0 < n:=by
  have hs:i < p.size:=by rw [h.size]; exact hi
  have e:p.getD i 0=p[i]:=by simp [Array.getD,hs]
  rw [e]
  have hm:p[i]∈p.toList:=by simp
  exact List.mem_range.mp (h.perm.mem_iff.mp hm)
theorem PermN.rev {p:Array Nat} (h:PermN n p) (i j:Nat):PermN n (kas_rev p i j):=
  ⟨by unfold kas_rev; rw [mirror_size,h.size],((Array.perm_iff_toList_perm.mp (mirror_perm _ _ _ _)).trans h.perm)⟩
theorem PermN.bub {p:Array Nat} (h:PermN n p) (i j:Nat):PermN n (bubble p i j):=
  ⟨by rw [bubble_size,h.size],((Array.perm_iff_toList_perm.mp (bubble_perm _ _ _)).trans h.perm)⟩
theorem getD_eq {p q:Array Nat} {i j:Nat} (h:p[i]?=q[j]?):p.getD i 0=q.getD j 0:=by
  simp only [Array.getD_eq_getD_getElem?,h]
theorem rev_get {p:Array Nat} (h:PermN n p) {i j:Nat} (hj:j≤n) (k:Nat):(kas_rev p i j).getD k 0=if i≤k∧k < j then p.getD (i + j - 1 - k) 0 else p.getD k 0:=by
  have e:=getElem?_mirror_all (xs:=p) (i:=i) (j:=j) (by rw [h.size]; exact hj) k
  unfold kas_rev
  split
  · rename_i q; rw [if_pos q] at e; exact getD_eq e
  · rename_i q; rw [if_neg q] at e; exact getD_eq e
noncomputable def Ris (lt:Nat→Nat→Bool) (p:Array Nat) (b:Nat):Prop:=∀ i j,i≤j→j < b→lt (p.getD j 0) (p.getD i 0)=false
noncomputable def Fal (lt:Nat→Nat→Bool) (p:Array Nat) (b:Nat):Prop:=∀ i j,i≤j→j < b→lt (p.getD i 0) (p.getD j 0)=false
noncomputable def Eqs (lt:Nat→Nat→Bool) (p:Array Nat) (a b:Nat):Prop:=∀ i j,a≤i→i < b→a≤j→j < b→lt (p.getD i 0) (p.getD j 0)=false
theorem Ord.irr (o:Ord lt) (i:Nat):lt i i=false:=by
  cases q:lt i i with
  | false=>rfl
  | true=>have:=o.asym i i q; rw [q] at this; cases this
theorem mirr {a b i:Nat} (h:a≤i∧i < b):a≤a + b - 1 - i∧a + b - 1 - i < b:=by omega
theorem asc_ok (o:Ord lt) {p:Array Nat} (hp:PermN n p):∀ (f k:Nat),1≤k→k + f≤n→Ris lt p k→kok n lt (kas_asc p f k) (fun m=>k≤m∧m≤k + f∧Ris lt p m∧(m=k + f∨lt (p.getD m 0) (p.getD (m - 1) 0)=true)):=by
  intro f
  induction f with
  | zero=>exact fun k _ _ hr=>⟨Nat.le_refl _,Nat.le_refl _,hr,.inl rfl⟩
  | succ f ih=>
    intro k h1 hk hr
    have kn:k < n:=Nat.lt_of_lt_of_le (Nat.lt_add_of_pos_right (Nat.succ_pos f)) hk
    have k1:k - 1 < k:=Nat.sub_lt h1 Nat.one_pos
    have ek:=Nat.add_right_comm k 1 f
    unfold kas_asc
    refine ⟨hp.bd kn,hp.bd (Nat.lt_trans k1 kn),?_⟩
    cases c:lt (p.getD k 0) (p.getD (k - 1) 0) with
    | true=>
      (try dsimp only); rw [if_pos rfl]
      exact ⟨Nat.le_refl _,Nat.le_add_right _ _,hr,.inr c⟩
    | false=>
      (try dsimp only); rw [if_neg Bool.false_ne_true]
      refine kok_mono (fun m h=>⟨Nat.le_of_succ_le h.1,Nat.le_trans h.2.1 (Nat.le_of_eq ek),h.2.2.1,h.2.2.2.imp (fun e=>e.trans ek) id⟩) _ (ih (k + 1) (Nat.le_add_left 1 k) (Nat.le_trans (Nat.le_of_eq ek) hk) fun i j hij hj=>?_)
      by_cases hjk:j < k
      · exact hr i j hij hjk
      · have:j=k:=Nat.le_antisymm (Nat.le_of_lt_succ hj) (Nat.le_of_not_lt hjk)
        subst this
        by_cases hik:i=j
        · subst hik; exact o.irr _
        · exact o.trans _ _ _ (hr i (j - 1) (Nat.le_sub_one_of_lt (Nat.lt_of_le_of_ne hij hik)) k1) c
theorem rev_eqs {p:Array Nat} (hp:PermN n p) {a b:Nat} (hb:b≤n) (he:Eqs lt p a b) (o:Ord lt) (hf:Fal lt p b):Fal lt (kas_rev p a b) b:=by
  intro i j hij hj
  rw [rev_get hp hb,rev_get hp hb]
  by_cases hi:a≤i∧i < b
  · rw [if_pos hi]
    have hj':a≤j∧j < b:=⟨Nat.le_trans hi.1 hij,hj⟩
    rw [if_pos hj']
    exact he _ _ (mirr hi).1 (mirr hi).2 (mirr hj').1 (mirr hj').2
  · rw [if_neg hi]
    have hia:i < a:=Nat.lt_of_not_le fun z=>hi ⟨z,Nat.lt_of_le_of_lt hij hj⟩
    by_cases hj':a≤j∧j < b
    · rw [if_pos hj']
      exact hf _ _ (Nat.le_trans (Nat.le_of_lt hia) (mirr hj').1) (mirr hj').2
    · rw [if_neg hj']
      exact hf i j hij hj
theorem fal_more (o:Ord lt) {p':Array Nat} {k:Nat} (h1:1≤k) (hf':Fal lt p' k) (hc:lt (p'.getD (k - 1) 0) (p'.getD k 0)=false):Fal lt p' (k + 1):=by
  intro i j hij hj
  by_cases hjk:j < k
  · exact hf' i j hij hjk
  · have:j=k:=Nat.le_antisymm (Nat.le_of_lt_succ hj) (Nat.le_of_not_lt hjk)
    subst this
    by_cases hik:i=j
    · subst hik; exact o.irr _
    · exact o.trans _ _ _ hc (hf' i (j - 1) (Nat.le_sub_one_of_lt (Nat.lt_of_le_of_ne hij hik)) (Nat.sub_lt h1 Nat.one_pos))
theorem eqs_one (o:Ord lt) (p':Array Nat) (k:Nat):Eqs lt p' (k + 1 - (0 + 1)) (k + 1):=by
  intro i j a1 a2 a3 a4
  have e1:i=k:=Nat.le_antisymm (Nat.le_of_lt_succ a2) a1
  have e2:j=k:=Nat.le_antisymm (Nat.le_of_lt_succ a4) a3
  subst e1
  subst e2
  exact o.irr _
theorem eqs_more (o:Ord lt) {p:Array Nat} {k q:Nat} (hb:k - (q + 1)≤k - 1∧k - 1 < k) (he:Eqs lt p (k - (q + 1)) k) (c:lt (p.getD k 0) (p.getD (k - 1) 0)=false) (d:lt (p.getD (k - 1) 0) (p.getD k 0)=false):Eqs lt p (k + 1 - (q + 1 + 1)) (k + 1):=by
  have e1:∀ i,k + 1 - (q + 1 + 1)≤i→i < k + 1→lt (p.getD i 0) (p.getD k 0)=false∧lt (p.getD k 0) (p.getD i 0)=false:=fun i b1 b2=>by
    rw [Nat.add_sub_add_right] at b1
    by_cases hik:i=k
    · subst hik; exact ⟨o.irr _,o.irr _⟩
    · have il:i < k:=Nat.lt_of_le_of_ne (Nat.le_of_lt_succ b2) hik
      exact ⟨o.trans _ _ _ d (he i (k - 1) b1 il hb.1 hb.2),o.trans _ _ _ (he (k - 1) i hb.1 hb.2 b1 il) c⟩
  exact fun i j a1 a2 a3 a4=>o.trans _ _ _ (e1 j a3 a4).2 (e1 i a1 a2).1
theorem desc_ok (o:Ord lt):∀ (f:Nat) (p:Array Nat) (k q:Nat),PermN n p→1≤k→k + f≤n→q + 1≤k→Fal lt p k→Eqs lt p (k - (q + 1)) k→
    kok n lt (kas_desc f p k q) (fun r=>PermN n r.1∧k≤r.2.1∧r.2.1≤n∧r.2.2 + 1≤r.2.1∧Fal lt r.1 r.2.1∧Eqs lt r.1 (r.2.1 - (r.2.2 + 1)) r.2.1):=by
  intro f
  induction f with
  | zero=>exact fun p k q hp h1 hk hq hf he=>⟨hp,Nat.le_refl _,hk,hq,hf,he⟩
  | succ f ih=>
    intro p k q hp h1 hk hq hf he
    have kn:k < n:=Nat.lt_of_lt_of_le (Nat.lt_add_of_pos_right (Nat.succ_pos f)) hk
    have k1:k - 1 < k:=Nat.sub_lt h1 Nat.one_pos
    have hk':k + 1 + f≤n:=Nat.le_trans (Nat.le_of_eq (Nat.add_right_comm k 1 f)) hk
    have hb:k - (q + 1)≤k - 1∧k - 1 < k:=⟨Nat.sub_le_sub_left (Nat.succ_le_succ (Nat.zero_le q)) k,k1⟩
    unfold kas_desc
    refine ⟨hp.bd kn,hp.bd (Nat.lt_trans k1 kn),?_⟩
    cases c:lt (p.getD k 0) (p.getD (k - 1) 0) with
    | true=>
      (try dsimp only); rw [if_pos rfl]
      have hc:lt (p.getD (k - 1) 0) (p.getD k 0)=false:=o.asym _ _ c
      by_cases hq0:q > 0
      · rw [if_pos hq0]
        have hf':=rev_eqs hp (Nat.le_of_lt kn) he o hf
        have hc':lt ((kas_rev p (k - (q + 1)) k).getD (k - 1) 0) ((kas_rev p (k - (q + 1)) k).getD k 0)=false:=by
          rw [rev_get hp (Nat.le_of_lt kn),rev_get hp (Nat.le_of_lt kn),if_pos hb,if_neg (fun z=>Nat.lt_irrefl _ z.2)]
          exact o.trans _ _ _ hc (he _ _ (mirr hb).1 (mirr hb).2 hb.1 hb.2)
        exact kok_mono (fun r h=>⟨h.1,Nat.le_of_succ_le h.2.1,h.2.2⟩) _ (ih _ (k + 1) 0 (hp.rev _ _) (Nat.le_add_left 1 k) hk' (Nat.le_add_left 1 k) (fal_more o h1 hf' hc') (eqs_one o _ k))
      · rw [if_neg hq0]
        exact kok_mono (fun r h=>⟨h.1,Nat.le_of_succ_le h.2.1,h.2.2⟩) _ (ih _ (k + 1) 0 hp (Nat.le_add_left 1 k) hk' (Nat.le_add_left 1 k) (fal_more o h1 hf hc) (eqs_one o _ k))
    | false=>
      (try dsimp only); rw [if_neg Bool.false_ne_true]
      refine ⟨hp.bd (Nat.lt_trans k1 kn),hp.bd kn,?_⟩
      cases d:lt (p.getD (k - 1) 0) (p.getD k 0) with
      | true=>
        (try dsimp only); rw [if_pos rfl]
        exact ⟨hp,Nat.le_refl _,Nat.le_of_lt kn,hq,hf,he⟩
      | false=>
        (try dsimp only); rw [if_neg Bool.false_ne_true]
        exact kok_mono (fun r h=>⟨h.1,Nat.le_of_succ_le h.2.1,h.2.2⟩) _ (ih p (k + 1) (q + 1) hp (Nat.le_add_left 1 k) hk' (Nat.succ_le_succ hq) (fal_more o h1 hf d) (eqs_more o hb he c d))
theorem rev_ris {p:Array Nat} (hp:PermN n p) {b:Nat} (hb:b≤n) (hf:Fal lt p b):Ris lt (kas_rev p 0 b) b:=by
  intro i j hij hj
  have hi:0≤i∧i < b:=⟨Nat.zero_le _,Nat.lt_of_le_of_lt hij hj⟩
  rw [rev_get hp hb,rev_get hp hb,if_pos ⟨Nat.zero_le _,hj⟩,if_pos hi]
  exact hf _ _ (Nat.sub_le_sub_left hij _) (mirr hi).2
theorem tail3_ok (o:Ord lt) {p:Array Nat} (hp:PermN n p) {k:Nat} (h1:1≤k) (hk:k≤n) (hf:Fal lt p k):kok n lt (kas_tail3 k n p) (fun r=>1≤r.1∧r.1≤n∧PermN n r.2∧Ris lt r.2 r.1):=by
  unfold kas_tail3
  have e:=Nat.le_of_eq (Nat.add_sub_cancel' hk)
  exact kok_bind _ (kok_mono (fun m h=>⟨Nat.le_trans h1 h.1,Nat.le_trans h.2.1 e,hp.rev _ _,h.2.2.1⟩) _ (asc_ok o (hp.rev 0 k) (n - k) k h1 e (rev_ris hp hk hf)))
theorem descPart_ok (o:Ord lt) {p:Array Nat} (hp:PermN n p) {k:Nat} (h1:1≤k) (hk:k < n) (hf:Fal lt p (k + 1)):kok n lt (kas_descPart k n p) (fun r=>1≤r.1∧r.1≤n∧PermN n r.2∧Ris lt r.2 r.1):=by
  unfold kas_descPart
  refine kok_bind _ (kok_mono ?_ _ (desc_ok o (n - (k + 1)) p (k + 1) 0 hp (Nat.le_add_left 1 k) (Nat.le_of_eq (Nat.add_sub_cancel' hk)) (Nat.le_add_left 1 k) hf (eqs_one o p k)))
  intro r h
  obtain ⟨a1,a2,a3,a4,a5,a6⟩:=h
  have h1':=Nat.le_trans (Nat.le_add_left 1 k) a2
  by_cases hq:r.2.2 > 0
  · rw [if_pos hq]
    exact tail3_ok o (a1.rev _ _) h1' a3 (rev_eqs a1 a3 a6 o a5)
  · rw [if_neg hq]
    exact tail3_ok o a1 h1' a3 a5
theorem count_ok (o:Ord lt) {p:Array Nat} (hp:PermN n p) (hn:1≤n):kok n lt (kas_count n p) (fun r=>1≤r.1∧r.1≤n∧PermN n r.2∧Ris lt r.2 r.1):=by
  unfold kas_count
  have en:=Nat.add_sub_cancel' hn
  refine kok_bind _ (kok_mono (fun k hh_=>?_) _ (asc_ok o hp (n - 1) 1 (Nat.le_refl _) (Nat.le_of_eq en) fun i j hij hj=>by
    have e2:j=0:=Nat.lt_one_iff.mp hj
    subst e2
    have e1:i=0:=Nat.le_zero.mp hij
    subst e1; exact o.irr _))
  obtain ⟨a1,a2,a3,a4⟩:=hh_
  have a2:k≤n:=Nat.le_trans a2 (Nat.le_of_eq en)
  by_cases hk:(k == n)=true
  · rw [if_pos hk]
    exact ⟨a1,a2,hp,a3⟩
  · rw [if_neg hk]
    have hkn:k≠n:=by simpa using hk
    have kn:k < n:=Nat.lt_of_le_of_ne a2 hkn
    have k1:k - 1 < k:=Nat.sub_lt a1 Nat.one_pos
    have hlt:lt (p.getD k 0) (p.getD (k - 1) 0)=true:=by
      rcases a4 with e | e
      · exact absurd (e.trans en) hkn
      · exact e
    have hc:=o.asym _ _ hlt
    by_cases h1:k > 1
    · rw [if_pos h1]
      refine ⟨hp.bd (Nat.lt_of_lt_of_le Nat.one_pos hn),hp.bd (Nat.lt_trans k1 kn),?_⟩
      cases c:lt (p.getD 0 0) (p.getD (k - 1) 0) with
      | true=>
        (try dsimp only); rw [if_pos rfl]
        exact ⟨a1,a2,hp,a3⟩
      | false=>
        (try dsimp only); rw [if_neg Bool.false_ne_true]
        have alike:∀ i j,i < k→j < k→lt (p.getD i 0) (p.getD j 0)=false:=fun i j hi hj=>
          o.trans _ _ _ (o.trans _ _ _ (a3 j (k - 1) (Nat.le_sub_one_of_lt hj) k1) c) (a3 0 i (Nat.zero_le _) hi)
        refine descPart_ok o (hp.rev _ _) a1 kn fun i j hij hj=>?_
        rw [rev_get hp a2,rev_get hp a2]
        by_cases hjk:j < k
        · have hi:0≤i∧i < k:=⟨Nat.zero_le _,Nat.lt_of_le_of_lt hij hjk⟩
          rw [if_pos hi,if_pos ⟨Nat.zero_le _,hjk⟩]
          exact alike _ _ (mirr hi).2 (mirr ⟨Nat.zero_le _,hjk⟩).2
        · have ej:j=k:=Nat.le_antisymm (Nat.le_of_lt_succ hj) (Nat.le_of_not_lt hjk)
          subst ej
          rw [if_neg (fun z:0≤j∧j < j=>Nat.lt_irrefl _ z.2)]
          by_cases hij':i < j
          · rw [if_pos ⟨Nat.zero_le _,hij'⟩]
            exact o.trans _ _ _ hc (alike _ _ (mirr ⟨Nat.zero_le _,hij'⟩).2 k1)
          · rw [if_neg fun z=>hij' z.2]
            have:i=j:=Nat.le_antisymm hij (Nat.le_of_not_lt hij')
            subst this
            exact o.irr _
    · rw [if_neg h1]
      have ek:k=1:=Nat.le_antisymm (Nat.le_of_not_lt h1) a1
      subst ek
      refine descPart_ok o hp (Nat.le_refl _) kn fun i j hij hj=>?_
      by_cases hij':i=j
      · subst hij'; exact o.irr _
      · have lj:i < j:=Nat.lt_of_le_of_ne hij hij'
        have e2:j=1:=Nat.le_antisymm (Nat.le_of_lt_succ hj) (Nat.lt_of_le_of_lt (Nat.zero_le i) lj)
        subst e2
        have e1:i=0:=Nat.lt_one_iff.mp lj
        subst e1
        exact hc
theorem place_ok (o:Ord lt) {p:Array Nat} (hp:PermN n p) {k:Nat} (hk:k < n) (hr:Ris lt p k):∀ (f l r:Nat),l≤r→r≤k→r - l≤f→(∀ i,i < l→lt (p.getD k 0) (p.getD i 0)=false)→(∀ i,r≤i→i < k→lt (p.getD k 0) (p.getD i 0)=true)→
    kok n lt (kas_place p k f l r) (fun m=>m≤k∧(∀ i,i < m→lt (p.getD k 0) (p.getD i 0)=false)∧∀ i,m≤i→i < k→lt (p.getD k 0) (p.getD i 0)=true):=by
  intro f
  induction f with
  | zero=>
    intro l r h1 h2 h3 h4 h5
    have e:l=r:=Nat.le_antisymm h1 (Nat.le_of_sub_eq_zero (Nat.le_zero.mp h3))
    subst e
    exact ⟨h2,h4,h5⟩
  | succ f ih=>
    intro l r h1 h2 h3 h4 h5
    unfold kas_place
    by_cases hlr:l ≥ r
    · rw [if_pos hlr]
      have e:l=r:=Nat.le_antisymm h1 hlr
      subst e
      exact ⟨h2,h4,h5⟩
    · rw [if_neg hlr]
      have mid:l≤(l + r) / 2∧(l + r) / 2 < r∧(l + r) / 2 - l≤f∧r - ((l + r) / 2 + 1)≤f:=by
        clear h4 h5 hr hp ih h2 hk
        omega
      obtain ⟨m1,m2,m3,m4⟩:=mid
      refine ⟨hp.bd hk,hp.bd (Nat.lt_trans (Nat.lt_of_lt_of_le m2 h2) hk),?_⟩
      cases c:lt (p.getD k 0) (p.getD ((l + r) / 2) 0) with
      | true=>
        (try dsimp only); rw [if_pos rfl]
        refine ih l _ m1 (Nat.le_trans (Nat.le_of_lt m2) h2) m3 h4 fun i a1 a2=>?_
        cases q:lt (p.getD k 0) (p.getD i 0) with
        | true=>rfl
        | false=>
          have:=o.trans _ _ _ (hr ((l + r) / 2) i a1 a2) q
          rw [c] at this
          cases this
      | false=>
        (try dsimp only); rw [if_neg Bool.false_ne_true]
        exact ih _ r m2 h2 m4 (fun i a1=>o.trans _ _ _ (hr i ((l + r) / 2) (Nat.le_of_lt_succ a1) (Nat.lt_of_lt_of_le m2 h2)) c) h5
theorem bub_get {p:Array Nat} (hp:PermN n p) {k l:Nat} (hk:k < n) (hl:l≤k) (i:Nat):(bubble p k (k - l)).getD i 0=if i=l then p.getD k 0 else if l < i∧i≤k then p.getD (i - 1) 0 else p.getD i 0:=by
  have e:=getElem?_bubble (xs:=p) (src:=k) (by rw [hp.size]; exact hk) (k - l) (Nat.sub_le _ _) i
  rw [Nat.sub_sub_self hl] at e
  by_cases h1:i=l
  · rw [if_pos h1] at e ⊢; exact getD_eq e
  · rw [if_neg h1] at e ⊢
    by_cases h2:l < i∧i≤k
    · rw [if_pos h2] at e ⊢; exact getD_eq e
    · rw [if_neg h2] at e ⊢; exact getD_eq e
theorem bub_ris (o:Ord lt) {p:Array Nat} (hp:PermN n p) {k l:Nat} (kn:k < n) (hr:Ris lt p k) (a1:l≤k) (a2:∀ i,i < l→lt (p.getD k 0) (p.getD i 0)=false) (a3:∀ i,l≤i→i < k→lt (p.getD k 0) (p.getD i 0)=true):Ris lt (bubble p k (k - l)) (k + 1):=by
  intro i j hij hj
  have jk:j≤k:=Nat.le_of_lt_succ hj
  have jl:l < j→j - 1 < k:=fun z=>Nat.lt_of_lt_of_le (Nat.sub_lt (Nat.lt_of_le_of_lt (Nat.zero_le l) z) Nat.one_pos) jk
  rw [bub_get hp kn a1,bub_get hp kn a1]
  by_cases ei:i=l
  · rw [if_pos ei]
    by_cases ej:j=l
    · rw [if_pos ej]; exact o.irr _
    · have lj:l < j:=Nat.lt_of_le_of_ne (ei ▸ hij) (Ne.symm ej)
      rw [if_neg ej,if_pos ⟨lj,jk⟩]
      exact o.asym _ _ (a3 (j - 1) (Nat.le_sub_one_of_lt lj) (jl lj))
  · rw [if_neg ei]
    by_cases ej:j=l
    · have il:i≤l:=ej ▸ hij
      rw [if_pos ej,if_neg fun z=>Nat.lt_irrefl _ (Nat.lt_of_lt_of_le z.1 il)]
      exact a2 i (Nat.lt_of_le_of_ne il ei)
    · rw [if_neg ej]
      by_cases ci:l < i∧i≤k
      · have lj:=Nat.lt_of_lt_of_le ci.1 hij
        rw [if_pos ci,if_pos ⟨lj,jk⟩]
        exact hr _ _ (Nat.sub_le_sub_right hij 1) (jl lj)
      · rw [if_neg ci]
        by_cases cj:l < j∧j≤k
        · rw [if_pos cj]
          exact hr _ _ (Nat.le_sub_one_of_lt (Nat.lt_of_le_of_lt (Nat.le_of_not_lt fun z=>ci ⟨z,Nat.le_trans hij jk⟩) cj.1)) (jl cj.1)
        · rw [if_neg cj]
          exact hr _ _ hij (Nat.lt_of_lt_of_le (Nat.lt_of_le_of_ne (Nat.le_of_not_lt fun z=>cj ⟨z,jk⟩) ej) a1)
theorem bin_ok (o:Ord lt):∀ (f:Nat) (p:Array Nat) (k:Nat),PermN n p→k + f=n→Ris lt p k→kok n lt (kas_bin f p k) (fun r=>PermN n r∧Ris lt r n):=by
  intro f
  induction f with
  | zero=>exact fun p k hp hk hr=>⟨hp,by rw [← hk]; exact hr⟩
  | succ f ih=>
    intro p k hp hk hr
    have kn:k < n:=hk ▸ Nat.lt_add_of_pos_right (Nat.succ_pos f)
    unfold kas_bin
    refine kok_bind _ (kok_mono (fun l hh_=>?_) _ (place_ok o hp kn hr k 0 k (Nat.zero_le _) (Nat.le_refl _) (Nat.le_refl _) (fun i hi=>absurd hi (Nat.not_lt_zero _)) fun i h1 h2=>absurd h2 (Nat.not_lt_of_le h1)))
    obtain ⟨a1,a2,a3⟩:=hh_
    exact ih _ (k + 1) (hp.bub _ _) ((Nat.add_right_comm k 1 f).trans hk) (bub_ris o hp kn hr a1 a2 a3)
theorem range_perm (n:Nat):PermN n (List.toArray (List.range n)):=⟨by simp,by simp⟩
theorem kas_sort_ok (o:Ord lt) (hn:1≤n):kok n lt (kas_sort n) (fun r=>PermN n r∧Ris lt r n):=by
  unfold kas_sort
  refine kok_bind _ (kok_mono (fun r hh_=>?_) _ (count_ok o (range_perm n) hn))
  obtain ⟨a1,a2,a3,a4⟩:=hh_
  by_cases hr:r.1 < n
  · rw [if_pos hr]
    have e:max r.1 1=r.1:=Nat.max_eq_left a1
    rw [e]
    exact bin_ok o _ _ _ a3 (Nat.add_sub_cancel' a2) a4
  · rw [if_neg hr]
    have e:r.1=n:=Nat.le_antisymm a2 (Nat.le_of_not_lt hr)
    rw [e] at a4
    exact ⟨a3,a4⟩
end
section
variable {prog:Program} {w:World} {A:Around} {E:Value→Shared→Prop} {s:Shared}
noncomputable def outOf (vs:List Value) (p:Array Nat):Array Value:=(p.toList.map fun i=>vs.getD i Value.none).toArray
theorem out_small (vs:List Value) (h:vs.length < 2):outOf vs (List.toArray (List.range vs.length))=(vs.toArray.zip vs.toArray).map (·.2):=by
  cases vs with
  | nil=>simp [outOf]
  | cons v r=>
    cases r with
    | nil=>simp [outOf,List.range,List.range.loop]
    | cons _ _=>simp at h; lia
theorem list_sort_gen {a:Addr} {vs:List Value} {n:Nat} {P:PySem.Fin→Shared→Prop} (ho:s.heap.get? a=some (seqObj "list" vs.toArray n)) (h64:vs.length < 64) (κ:SortKind) (lt:Nat→Nat→Bool) (o:Ord lt)
    (hk:2≤vs.length→∀ h',(∀ b u,b≠a→s.heap.get? b=some u→h'.get? b=some u)→∀ Q:SortKind→Shared→Prop,Q κ { s with heap:=h' }→wpAny (model prog w) A (keyKind' vs.toArray) Q E { s with heap:=h' })
    (hc:∀ h',(∀ b u,b≠a→s.heap.get? b=some u→h'.get? b=some u)→∀ i j C,i < vs.length→j < vs.length→C (lt i j) { s with heap:=h' }→kas_ask prog w A κ vs i j C { s with heap:=h' })
    (h:∀ p,PermN vs.length p→Ris lt p vs.length→P (.done (.ret .none)) { s with heap:=sortedHeap s.heap a vs (outOf vs p) }) :
    wpAny (model prog w) A (Builtin.«list.sort» ⟨[.ref a],[]⟩) P E s:=by
  rw [list_sort_plain]
  have ha:a < s.heap.objs.size:=Heap.lt_size ho
  refine wpAny_bind (listItems_at ho rfl ?_)
  refine wpAny_bind (listUpdate_at ho rfl ?_ (by rw [List.size_toArray,sizeLine_eq]; lia) (Nat.zero_le _))
  obtain ⟨e1,ho1⟩:∃ e1,(s.heap.update a (Obj.mapSeq fun _=>(#[]:Array Value))).get? a=some (seqObj "list" #[] e1):=⟨_,get?_update_seq ho (fun _=>#[])⟩
  refine wpAny_bind (seqEpoch_at ho1 rfl ?_)
  refine wpAny_bind (wpAny_newTuple ?_ (by show vs.length≤_; rw [sizeLine_eq]; lia))
  refine wpAny_bind (wpAny_newList ?_ (Nat.zero_le _))
  refine wpAny_holding ?_
  have ho6:(((s.heap.update a (Obj.mapSeq fun _=>(#[]:Array Value))).push (seqObj "tuple" vs.toArray 0)).push (seqObj "list" #[] 0)).get? a=some (seqObj "list" #[] e1):=by
    rw [Heap.get?_push_ne _ _ _ (by rw [size_push',Heap.size_update]; exact Nat.ne_of_lt (Nat.lt_succ_of_lt ha)),Heap.get?_push_ne _ _ _ (by rw [Heap.size_update]; exact Nat.ne_of_lt ha)]
    exact ho1
  have kept:∀ b u,b≠a→s.heap.get? b=some u→(((s.heap.update a (Obj.mapSeq fun _=>(#[]:Array Value))).push (seqObj "tuple" vs.toArray 0)).push (seqObj "list" #[] 0)).get? b=some u:=fun b u hb e=>by
    have hlt:b < s.heap.objs.size:=Heap.lt_size e
    rw [Heap.get?_push_ne _ _ _ (by rw [size_push',Heap.size_update]; exact Nat.ne_of_lt (Nat.lt_succ_of_lt hlt)),Heap.get?_push_ne _ _ _ (by rw [Heap.size_update]; exact Nat.ne_of_lt hlt),Heap.get?_update_ne _ _ _ _ hb]
    exact e
  show wpAny (model prog w) A _ P E { s with heap:=((s.heap.update a (Obj.mapSeq fun _=>(#[]:Array Value))).push (seqObj "tuple" vs.toArray 0)).push (seqObj "list" #[] 0) }
  dsimp only
  have hsz:vs.toArray.size=vs.length:=by simp
  by_cases h2:vs.toArray.size < 2
  · rw [if_pos h2,if_pos h2]
    refine wpAny_bind (wpAny_pure ?_)
    rw [StateT.run_pure]
    refine wpAny_bind (wpAny_pure ?_)
    dsimp only
    refine wpAny_bind (seqEpoch_at ho6 rfl ?_)
    refine wpAny_bind (listUpdate_at ho6 rfl ?_ (Nat.zero_le _) (by rw [Array.size_map]; show (pairsOf vs).size≤_; rw [pairsOf_size,sizeLine_eq]; lia))
    simp only [bne_self_eq_false,Bool.false_eq_true,if_false]
    have q:=h (List.toArray (List.range vs.length)) (range_perm _) (fun i j hij hj=>by
      have e1:i=j:=by lia
      subst e1
      exact o.irr _)
    have e:outOf vs (List.toArray (List.range vs.length))=(vs.toArray.zip vs.toArray).map (·.2):=by
      exact out_small vs (by lia)
    rw [e] at q
    exact wpAny_pure q
  · rw [if_neg h2,if_neg h2]
    have h2':2≤vs.length:=by lia
    refine wpAny_bind (hk h2' _ kept _ ?_)
    refine wpAny_bind (wpAny_mono (kat_run (Q:=fun st' s'=>s'={ s with heap:=((s.heap.update a (Obj.mapSeq fun _=>(#[]:Array Value))).push (seqObj "tuple" vs.toArray 0)).push (seqObj "list" #[] 0) }∧∃ p:Array Nat,PermN vs.length p∧Ris lt p vs.length∧arrOf st'=p.map (kas_item (vs.toArray.zip vs.toArray))∧failedOf st'=none)
      (G:=fun p s'=>s'={ s with heap:=((s.heap.update a (Obj.mapSeq fun _=>(#[]:Array Value))).push (seqObj "tuple" vs.toArray 0)).push (seqObj "list" #[] 0) }∧PermN vs.length p∧Ris lt p vs.length)
      rfl h2' h64 (fun p st' s' a1 a2 a3 ⟨b1,b2,b3⟩=>⟨b1,p,b2,b3,a2,a3⟩) (kok_wp (hc _ kept) (fun p ⟨b2,b3⟩=>⟨rfl,b2,b3⟩) _ (kas_sort_ok o (by lia)))) ?_ fun _ _ e=>e)
    rintro ⟨⟨⟩,st'⟩ s' ⟨rfl,p,hp,hr,har,hf⟩
    dsimp only
    have hout:=kat_snds rfl har
    rw [hout]
    refine wpAny_bind (seqEpoch_at ho6 rfl ?_)
    refine wpAny_bind (listUpdate_at ho6 rfl ?_ (Nat.zero_le _) (by rw [List.size_toArray,List.length_map,Array.length_toList,hp.size,sizeLine_eq]; lia))
    rw [hf]
    simp only [bne_self_eq_false,Bool.false_eq_true,if_false]
    exact wpAny_pure (h p hp hr)
end
theorem cps_inj {x y:Str} (h:x.cps.toList=y.cps.toList):x=y:=by
  cases x; cases y
  congr
  exact Array.toList_inj.mp h
mutual
theorem eqd_iff:∀ x y:D,cmpOk x y=true→(eqd x y=true↔x=y)
  | .int i,.int j,_=>by simp [eqd,toPy,PyData.eqv]
  | .bl a,.bl b,_=>by simp [eqd,toPy,PyData.eqv]
  | .str a,.str b,_=>by simp [eqd,toPy,PyData.eqv]
  | .tup xs,.tup ys,h=>by
    have:=eqds_iff xs ys (by simpa [cmpOk] using h)
    simp only [eqd,toPy,PyData.eqv,D.tup.injEq]
    exact this
  | .non,y,h=>by cases y <;> simp [cmpOk] at h
  | .lst _,y,h=>by cases y <;> simp [cmpOk] at h
  | .dT _,y,h=>by cases y <;> simp [cmpOk] at h
  | .dK _,y,h=>by cases y <;> simp [cmpOk] at h
  | .ins _ _,y,h=>by cases y <;> simp [cmpOk] at h
  | .int _,.non,h=>by simp [cmpOk] at h
  | .int _,.bl _,h=>by simp [cmpOk] at h
  | .int _,.str _,h=>by simp [cmpOk] at h
  | .int _,.tup _,h=>by simp [cmpOk] at h
  | .int _,.lst _,h=>by simp [cmpOk] at h
  | .int _,.dT _,h=>by simp [cmpOk] at h
  | .int _,.dK _,h=>by simp [cmpOk] at h
  | .int _,.ins _ _,h=>by simp [cmpOk] at h
  | .bl _,.non,h=>by simp [cmpOk] at h
  | .bl _,.int _,h=>by simp [cmpOk] at h
  | .bl _,.str _,h=>by simp [cmpOk] at h
  | .bl _,.tup _,h=>by simp [cmpOk] at h
  | .bl _,.lst _,h=>by simp [cmpOk] at h
  | .bl _,.dT _,h=>by simp [cmpOk] at h
  | .bl _,.dK _,h=>by simp [cmpOk] at h
  | .bl _,.ins _ _,h=>by simp [cmpOk] at h
  | .str _,.non,h=>by simp [cmpOk] at h
  | .str _,.bl _,h=>by simp [cmpOk] at h
  | .str _,.int _,h=>by simp [cmpOk] at h
  | .str _,.tup _,h=>by simp [cmpOk] at h
  | .str _,.lst _,h=>by simp [cmpOk] at h
  | .str _,.dT _,h=>by simp [cmpOk] at h
  | .str _,.dK _,h=>by simp [cmpOk] at h
  | .str _,.ins _ _,h=>by simp [cmpOk] at h
  | .tup _,.non,h=>by simp [cmpOk] at h
  | .tup _,.bl _,h=>by simp [cmpOk] at h
  | .tup _,.int _,h=>by simp [cmpOk] at h
  | .tup _,.str _,h=>by simp [cmpOk] at h
  | .tup _,.lst _,h=>by simp [cmpOk] at h
  | .tup _,.dT _,h=>by simp [cmpOk] at h
  | .tup _,.dK _,h=>by simp [cmpOk] at h
  | .tup _,.ins _ _,h=>by simp [cmpOk] at h
theorem eqds_iff:∀ xs ys:List D,cmpOks xs ys=true→(PyData.eqvAll (toPys xs) (toPys ys)=true↔xs=ys)
  | [],[],_=>by simp [toPys,PyData.eqvAll]
  | [],_::_,_=>by simp [toPys,PyData.eqvAll]
  | _::_,[],_=>by simp [toPys,PyData.eqvAll]
  | x::xs,y::ys,h=>by
    rw [cmpOks,Bool.and_eq_true] at h
    have h1:=eqd_iff x y h.1
    have h2:=eqds_iff xs ys h.2
    simp only [toPys,PyData.eqvAll,Bool.and_eq_true,List.cons.injEq]
    rw [h2]
    unfold eqd at h1
    rw [h1]
end
structure Fc2 {α:Type} (l:α→α→Bool) (x y:α):Prop where
  as:l x y=true→l y x=false
  an:l x y=false→l y x=false→x=y
noncomputable def Fc3 {α:Type} (l:α→α→Bool) (x y z:α):Prop:=l x y=true→l y z=true→l x z=true
theorem cmpOk_inv {x y:D} (h:cmpOk x y=true):(∃ i j,x=.int i∧y=.int j)∨(∃ i j,x=.bl i∧y=.bl j)∨(∃ i j,x=.str i∧y=.str j)∨∃ i j,x=.tup i∧y=.tup j∧cmpOks i j=true:=by
  cases x with
  | int i=>
    refine .inl ?_
    cases y with
    | int j=>exact ⟨_,_,rfl,rfl⟩
    | _=>exact absurd h Bool.false_ne_true
  | bl i=>
    refine .inr (.inl ?_)
    cases y with
    | bl j=>exact ⟨_,_,rfl,rfl⟩
    | _=>exact absurd h Bool.false_ne_true
  | str i=>
    refine .inr (.inr (.inl ?_))
    cases y with
    | str j=>exact ⟨_,_,rfl,rfl⟩
    | _=>exact absurd h Bool.false_ne_true
  | tup i=>
    refine .inr (.inr (.inr ?_))
    cases y with
    | tup j=>exact ⟨_,_,rfl,rfl,h⟩
    | _=>exact absurd h Bool.false_ne_true
  | _=>exact absurd h Bool.false_ne_true
theorem str_lt_as {a b:List Nat} (h:a < b):¬ b < a:=fun h'=>List.lt_irrefl a (List.lt_trans h h')
theorem fc2_scal {x y:D} (h1:cmpOk x y=true) (ht:isTup x=false):Fc2 ltD x y:=by
  rcases cmpOk_inv h1 with ⟨i,j,rfl,rfl⟩ | ⟨i,j,rfl,rfl⟩ | ⟨i,j,rfl,rfl⟩ | ⟨i,j,rfl,rfl,_⟩
  · refine ⟨fun h=>?_,fun h h'=>?_⟩
    · simp only [ltD,decide_eq_true_eq,decide_eq_false_iff_not] at h ⊢; lia
    · simp only [ltD,decide_eq_false_iff_not] at h h'; rw [show i=j by lia]
  · refine ⟨fun h=>?_,fun h h'=>?_⟩
    · cases i <;> cases j <;> simp_all [ltD]
    · cases i <;> cases j <;> simp_all [ltD]
  · refine ⟨fun h=>?_,fun h h'=>?_⟩
    · simp only [ltD,decide_eq_true_eq,decide_eq_false_iff_not] at h ⊢; exact str_lt_as h
    · simp only [ltD,decide_eq_false_iff_not] at h h'
      rw [cps_inj (List.le_antisymm h' h)]
  · cases ht
theorem fc3_scal {x y z:D} (h1:cmpOk x y=true) (h2:cmpOk y z=true) (ht:isTup x=false):Fc3 ltD x y z:=by
  rcases cmpOk_inv h1 with ⟨i,j,rfl,rfl⟩ | ⟨i,j,rfl,rfl⟩ | ⟨i,j,rfl,rfl⟩ | ⟨i,j,rfl,rfl,_⟩
  · rcases cmpOk_inv h2 with ⟨j',k,e,rfl⟩ | ⟨j',k,e,rfl⟩ | ⟨j',k,e,rfl⟩ | ⟨j',k,e,rfl,_⟩ <;> cases e
    intro h h'
    simp only [ltD,decide_eq_true_eq] at h h' ⊢; lia
  · rcases cmpOk_inv h2 with ⟨j',k,e,rfl⟩ | ⟨j',k,e,rfl⟩ | ⟨j',k,e,rfl⟩ | ⟨j',k,e,rfl,_⟩ <;> cases e
    intro h h'
    cases i <;> cases j <;> cases k <;> simp_all [ltD]
  · rcases cmpOk_inv h2 with ⟨j',k,e,rfl⟩ | ⟨j',k,e,rfl⟩ | ⟨j',k,e,rfl⟩ | ⟨j',k,e,rfl,_⟩ <;> cases e
    intro h h'
    simp only [ltD,decide_eq_true_eq] at h h' ⊢; exact List.lt_trans h h'
  · cases ht
theorem cmpOk_sym (n:Nat):∀ x y:D,okN n x=true→cmpOk x y=true→cmpOk y x=true:=by
  induction n with
  | zero=>
    intro x y o h
    rcases cmpOk_inv h with ⟨i,j,rfl,rfl⟩ | ⟨i,j,rfl,rfl⟩ | ⟨i,j,rfl,rfl⟩ | ⟨i,j,rfl,rfl,_⟩
    · rfl
    · rfl
    · rfl
    · simp [okN] at o
  | succ n ih=>
    intro x y o h
    rcases cmpOk_inv h with ⟨i,j,rfl,rfl⟩ | ⟨i,j,rfl,rfl⟩ | ⟨i,j,rfl,rfl⟩ | ⟨i,j,rfl,rfl,hc⟩
    · rfl
    · rfl
    · rfl
    · have key:∀ (xs ys:List D),(∀ d∈xs,okN n d=true)→cmpOks xs ys=true→cmpOks ys xs=true:=by
        intro xs
        induction xs with
        | nil=>intro ys _ _; cases ys <;> simp [cmpOks]
        | cons x xs ihx=>
          intro ys ho hc
          cases ys with
          | nil=>simp [cmpOks]
          | cons y ys=>
            rw [cmpOks,Bool.and_eq_true] at hc ⊢
            exact ⟨ih x y (ho x List.mem_cons_self) hc.1,ihx ys (fun d hd=>ho d (List.mem_cons_of_mem _ hd)) hc.2⟩
      rw [cmpOk]
      exact key i j (okN_all o) hc
theorem fc2_lex {n:Nat} (ih:∀ x y:D,okN n x=true→okN n y=true→cmpOk x y=true→Fc2 ltD x y) :
    ∀ (xs ys:List D),(∀ d∈xs,okN n d=true)→(∀ d∈ys,okN n d=true)→cmpOks xs ys=true→Fc2 lexD xs ys:=by
  intro xs
  induction xs with
  | nil=>
    intro ys _ _ _
    refine ⟨fun h=>?_,fun h h'=>?_⟩
    · cases ys <;> simp_all [lexD]
    · cases ys <;> simp_all [lexD]
  | cons x xs ihx=>
    intro ys ox oy c1
    cases ys with
    | nil=>
      refine ⟨fun h=>?_,fun h h'=>?_⟩
      · simp [lexD] at h
      · simp [lexD] at h'
    | cons y ys=>
      rw [cmpOks,Bool.and_eq_true] at c1
      have px:=ox x List.mem_cons_self
      have py:=oy y List.mem_cons_self
      have exy:=eqd_iff x y c1.1
      have eyx:=eqd_iff y x (cmpOk_sym n x y px c1.1)
      have G:=ihx ys (fun d hd=>ox d (List.mem_cons_of_mem _ hd)) (fun d hd=>oy d (List.mem_cons_of_mem _ hd)) c1.2
      refine ⟨fun h=>?_,fun h h'=>?_⟩
      · rw [lexD] at h ⊢
        by_cases hxy:x=y
        · rw [if_pos (exy.mpr hxy)] at h
          rw [if_pos (eyx.mpr hxy.symm)]
          exact G.as h
        · rw [if_neg (fun q=>hxy (exy.mp q))] at h
          rw [if_neg (fun q=>hxy (eyx.mp q).symm)]
          exact (ih x y px py c1.1).as h
      · rw [lexD] at h h'
        by_cases hxy:x=y
        · rw [if_pos (exy.mpr hxy)] at h
          rw [if_pos (eyx.mpr hxy.symm)] at h'
          rw [hxy,G.an h h']
        · rw [if_neg (fun q=>hxy (exy.mp q))] at h
          rw [if_neg (fun q=>hxy (eyx.mp q).symm)] at h'
          exact absurd ((ih x y px py c1.1).an h h') hxy
theorem fc2_all (n:Nat):∀ x y:D,okN n x=true→okN n y=true→cmpOk x y=true→Fc2 ltD x y:=by
  induction n with
  | zero=>
    intro x y ox oy c1
    refine fc2_scal c1 ?_
    cases x <;> first | rfl | (simp [okN] at ox)
  | succ n ih=>
    intro x y ox oy c1
    rcases cmpOk_inv c1 with ⟨i,j,rfl,rfl⟩ | ⟨i,j,rfl,rfl⟩ | ⟨i,j,rfl,rfl⟩ | ⟨i,j,rfl,rfl,d1⟩
    · exact fc2_scal c1 rfl
    · exact fc2_scal c1 rfl
    · exact fc2_scal c1 rfl
    · have F:=fc2_lex ih i j (okN_all ox) (okN_all oy) d1
      refine ⟨fun h=>?_,fun h h'=>?_⟩
      · rw [ltD] at h ⊢; exact F.as h
      · rw [ltD] at h h'; rw [F.an h h']
theorem fc3_lex {n:Nat} (ih:∀ x y z:D,okN n x=true→okN n y=true→okN n z=true→cmpOk x y=true→cmpOk y z=true→cmpOk x z=true→Fc3 ltD x y z) :
    ∀ (xs ys zs:List D),(∀ d∈xs,okN n d=true)→(∀ d∈ys,okN n d=true)→(∀ d∈zs,okN n d=true)→cmpOks xs ys=true→cmpOks ys zs=true→cmpOks xs zs=true→Fc3 lexD xs ys zs:=by
  intro xs
  induction xs with
  | nil=>
    intro ys zs _ _ _ _ _ _ h h'
    cases ys <;> cases zs <;> simp_all [lexD]
  | cons x xs ihx=>
    intro ys zs ox oy oz c1 c2 c3 h h'
    cases ys with
    | nil=>simp [lexD] at h
    | cons y ys=>
      rw [cmpOks,Bool.and_eq_true] at c1
      have px:=ox x List.mem_cons_self
      have py:=oy y List.mem_cons_self
      have exy:=eqd_iff x y c1.1
      cases zs with
      | nil=>simp [lexD] at h'
      | cons z zs=>
        rw [cmpOks,Bool.and_eq_true] at c2 c3
        have pz:=oz z List.mem_cons_self
        have eyz:=eqd_iff y z c2.1
        have exz:=eqd_iff x z c3.1
        have F:=ih x y z px py pz c1.1 c2.1 c3.1
        rw [lexD] at h h' ⊢
        by_cases hxy:x=y
        · rw [if_pos (exy.mpr hxy)] at h
          by_cases hyz:y=z
          · rw [if_pos (eyz.mpr hyz)] at h'
            rw [if_pos (exz.mpr (hxy.trans hyz))]
            exact ihx ys zs (fun d hd=>ox d (List.mem_cons_of_mem _ hd)) (fun d hd=>oy d (List.mem_cons_of_mem _ hd)) (fun d hd=>oz d (List.mem_cons_of_mem _ hd)) c1.2 c2.2 c3.2 h h'
          · rw [if_neg (fun q=>hyz (eyz.mp q))] at h'
            rw [if_neg (fun q=>hyz (hxy.symm.trans (exz.mp q)))]
            rw [hxy]; exact h'
        · rw [if_neg (fun q=>hxy (exy.mp q))] at h
          by_cases hyz:y=z
          · rw [if_neg (fun q=>hxy ((exz.mp q).trans hyz.symm))]
            rw [← hyz]; exact h
          · rw [if_neg (fun q=>hyz (eyz.mp q))] at h'
            have hxz:=F h h'
            by_cases he:x=z
            · subst he
              have:=(fc2_all n x y px py c1.1).as h
              rw [h'] at this
              cases this
            · rw [if_neg (fun q=>he (exz.mp q))]
              exact hxz
theorem fc3_all (n:Nat):∀ x y z:D,okN n x=true→okN n y=true→okN n z=true→cmpOk x y=true→cmpOk y z=true→cmpOk x z=true→Fc3 ltD x y z:=by
  induction n with
  | zero=>
    intro x y z ox oy oz c1 c2 c3
    refine fc3_scal c1 c2 ?_
    cases x <;> first | rfl | (simp [okN] at ox)
  | succ n ih=>
    intro x y z ox oy oz c1 c2 c3
    rcases cmpOk_inv c1 with ⟨i,j,rfl,rfl⟩ | ⟨i,j,rfl,rfl⟩ | ⟨i,j,rfl,rfl⟩ | ⟨i,j,rfl,rfl,d1⟩
    · exact fc3_scal c1 c2 rfl
    · exact fc3_scal c1 c2 rfl
    · exact fc3_scal c1 c2 rfl
    · rcases cmpOk_inv c2 with ⟨j',k,e,rfl⟩ | ⟨j',k,e,rfl⟩ | ⟨j',k,e,rfl⟩ | ⟨j',k,e,rfl,d2⟩ <;> cases e
      have F:=fc3_lex ih i j k (okN_all ox) (okN_all oy) (okN_all oz) d1 d2 (by simpa [cmpOk] using c3)
      intro h h'
      rw [ltD] at h h' ⊢
      exact F h h'
noncomputable def insD (x:D):List D→List D
  | []=>[x]
  | y::r=>if ltD x y=true then x::y::r else y::insD x r
noncomputable def sortD:List D→List D
  | []=>[]
  | x::r=>insD x (sortD r)
theorem insD_perm (x:D):∀ l:List D,(insD x l).Perm (x::l)
  | []=>.refl _
  | y::r=>by
    unfold insD
    split
    · exact .refl _
    · exact ((insD_perm x r).cons y).trans (.swap x y r)
theorem sortD_perm:∀ l:List D,(sortD l).Perm l
  | []=>.refl _
  | x::r=>(insD_perm x (sortD r)).trans ((sortD_perm r).cons x)
noncomputable def Cmps (n:Nat) (ds:List D):Prop:=(∀ d∈ds,okN n d=true)∧∀ x∈ds,∀ y∈ds,cmpOk x y=true
theorem sorted_uniq {n:Nat}:∀ {as bs:List D},as.Perm bs→Cmps n as→as.Pairwise (fun x y=>ltD y x=false)→bs.Pairwise (fun x y=>ltD y x=false)→as=bs:=by
  intro as
  induction as with
  | nil=>intro bs hp _ _ _; exact (List.Perm.nil_eq hp)
  | cons a as ih=>
    intro bs hp hc pa pb
    cases bs with
    | nil=>exact absurd hp.symm (List.not_perm_nil_cons _ _)
    | cons b bs=>
      have ma:a∈b::bs:=hp.mem_iff.mp List.mem_cons_self
      have mb:b∈a::as:=hp.mem_iff.mpr List.mem_cons_self
      have e:a=b:=by
        rcases List.mem_cons.mp ma with h | h
        · exact h
        · rcases List.mem_cons.mp mb with h' | h'
          · exact h'.symm
          · have l1:=(List.pairwise_cons.mp pa).1 b h'
            have l2:=(List.pairwise_cons.mp pb).1 a h
            exact (fc2_all n a b (hc.1 a List.mem_cons_self) (hc.1 b mb) (hc.2 a List.mem_cons_self b mb)).an l2 l1
      subst e
      rw [ih (List.Perm.cons_inv hp) ⟨fun d hd=>hc.1 d (List.mem_cons_of_mem _ hd),fun x hx y hy=>hc.2 x (List.mem_cons_of_mem _ hx) y (List.mem_cons_of_mem _ hy)⟩ (List.pairwise_cons.mp pa).2 (List.pairwise_cons.mp pb).2]
theorem Cmps.perm {n:Nat} {as bs:List D} (h:Cmps n as) (p:as.Perm bs):Cmps n bs:=⟨fun d hd=>h.1 d (p.mem_iff.mpr hd),fun x hx y hy=>h.2 x (p.mem_iff.mpr hx) y (p.mem_iff.mpr hy)⟩
theorem nlt_trans {n:Nat} {x y z:D} (ox:okN n x=true) (oy:okN n y=true) (oz:okN n z=true) (cxy:cmpOk x y=true) (cyz:cmpOk y z=true) (cxz:cmpOk x z=true) (cyx:cmpOk y x=true) (czy:cmpOk z y=true) (czx:cmpOk z x=true)
    (h1:ltD y x=false) (h2:ltD z y=false):ltD z x=false:=by
  cases q:ltD z x with
  | false=>rfl
  | true=>
    -- z < x; x≤y
    by_cases hxy:ltD x y=true
    · have:=fc3_all n z x y oz ox oy czx cxy czy q hxy
      rw [h2] at this; cases this
    · have e:x=y:=(fc2_all n x y ox oy cxy).an (by simpa using hxy) h1
      subst e
      rw [h2] at q; cases q
theorem insD_sorted {n:Nat} {x:D}:∀ {l:List D},Cmps n (x::l)→l.Pairwise (fun a b=>ltD b a=false)→(insD x l).Pairwise (fun a b=>ltD b a=false)
  | [],_,_=>List.pairwise_singleton _ _
  | y::r,hc,hp=>by
    have mx:x∈x::y::r:=List.mem_cons_self
    have my:y∈x::y::r:=List.mem_cons_of_mem _ List.mem_cons_self
    obtain ⟨h1,h2⟩:=List.pairwise_cons.mp hp
    unfold insD
    split
    · rename_i q
      refine List.pairwise_cons.mpr ⟨fun z hz=>?_,hp⟩
      have hyx:ltD y x=false:=(fc2_all n x y (hc.1 x mx) (hc.1 y my) (hc.2 x mx y my)).as q
      rcases List.mem_cons.mp hz with rfl | hz
      · exact hyx
      · have mz:z∈x::y::r:=List.mem_cons_of_mem _ (List.mem_cons_of_mem _ hz)
        exact nlt_trans (hc.1 x mx) (hc.1 y my) (hc.1 z mz) (hc.2 x mx y my) (hc.2 y my z mz) (hc.2 x mx z mz) (hc.2 y my x mx) (hc.2 z mz y my) (hc.2 z mz x mx) hyx (h1 z hz)
    · rename_i q
      refine List.pairwise_cons.mpr ⟨fun z hz=>?_,insD_sorted (x:=x) ⟨fun d hd=>hc.1 d ?_,fun a ha b hb=>hc.2 a ?_ b ?_⟩ h2⟩
      · rcases List.mem_cons.mp ((insD_perm x r).mem_iff.mp hz) with rfl | hz
        · simpa using q
        · exact h1 z hz
      all_goals
        first
          | (rcases List.mem_cons.mp hd with rfl | hd
             · exact mx
             · exact List.mem_cons_of_mem _ (List.mem_cons_of_mem _ hd))
          | (rcases List.mem_cons.mp ha with rfl | ha
             · exact mx
             · exact List.mem_cons_of_mem _ (List.mem_cons_of_mem _ ha))
          | (rcases List.mem_cons.mp hb with rfl | hb
             · exact mx
             · exact List.mem_cons_of_mem _ (List.mem_cons_of_mem _ hb))
theorem Cmps.sub {n:Nat} {as bs:List D} (h:Cmps n bs) (k:∀ x∈as,x∈bs):Cmps n as:=⟨fun d hd=>h.1 d (k d hd),fun x hx y hy=>h.2 x (k x hx) y (k y hy)⟩
theorem sortD_sorted {n:Nat}:∀ {l:List D},Cmps n l→(sortD l).Pairwise (fun a b=>ltD b a=false)
  | [],_=>.nil
  | x::r,hc=>insD_sorted (hc.sub fun y hy=>by
      rcases List.mem_cons.mp hy with rfl | hy
      · exact List.mem_cons_self
      · exact List.mem_cons_of_mem _ ((sortD_perm r).mem_iff.mp hy)) (sortD_sorted (hc.sub fun y hy=>List.mem_cons_of_mem _ hy))
theorem sortD_uniq {n:Nat} {as bs:List D} (hp:as.Perm bs) (hc:Cmps n bs) (hs:as.Pairwise (fun x y=>ltD y x=false)):as=sortD bs:=
  sorted_uniq (hp.trans (sortD_perm bs).symm) (hc.perm hp.symm) hs (sortD_sorted hc)
theorem sortD_same {n:Nat} {as bs:List D} (hp:as.Perm bs) (hc:Cmps n bs):sortD as=sortD bs:=
  sortD_uniq ((sortD_perm as).trans hp) hc (sortD_sorted (hc.perm hp.symm))
end L2
namespace L2
open PySem PySem.Spec PyProof.Rows
section
variable {X:Cx} {e a b c o:Expr} {es:List Expr} {pos p:Pos}
theorem repN_int {K:PySem.W.Frag} {H:Hp} {x:V} {i:Int} (r:Rep K H x (.int i)):x=.int i:=by cases r; rfl
theorem repN_str {K:PySem.W.Frag} {H:Hp} {x:V} {i:Str} (r:Rep K H x (.str i)):x=.str i:=by cases r; rfl
theorem on_int0 {K:PySem.W.Frag} {g:Int→Int→V} {g':Int→Int→D} (hg:∀ F i j,Rep K F (g i j) (g' i j)):OpN2 K (rI0 g) (fI0 g'):=by
  intro P F H x y dx dy d Q hf hp rx ry k
  unfold fI0 at hf
  split at hf
  · rename_i i j
    cases hf
    exact ⟨i,j,repN_int rx,repN_int ry,k _ F H (Evo.refl hp) (hg F i j)⟩
  · cases hf
theorem OpN2.or {K:PySem.W.Frag} {r r':R2} {f g:D→D→Option D} (h:OpN2 K r f) (h':OpN2 K r' g):OpN2 K (fun x y H Q=>r x y H Q∨r' x y H Q) (fun x y=>(f x y).or (g x y)):=by
  intro P F H x y dx dy d Q hf hp rx ry k
  dsimp only at hf
  cases q:f dx dy with
  | some d'=>rw [q] at hf; have hf:=Option.some.inj hf; subst hf; exact .inl (h P F H x y dx dy _ Q q hp rx ry k)
  | none=>rw [q] at hf; exact .inr (h' P F H x y dx dy d Q hf hp rx ry k)
noncomputable def leS:D→D→Option D
  | .str x,.str y=>some (.bl (!decide (y.cps.toList < x.cps.toList)))
  | _,_=>none
noncomputable def rLeS:R2:=fun x y H Q=>∃ i j,x=.str i∧y=.str j∧Q (.bl (!decide (j.cps.toList < i.cps.toList))) H
theorem op_le_str:OpR X (compareOp .LtE) rLeS:=by
  intro pins s σ H x y v u Q I rx ry h
  obtain ⟨i,j,rfl,rfl,q⟩:=h
  obtain ⟨t,rfl⟩:=rx
  obtain ⟨t',rfl⟩:=ry
  exact PySem.P.le_str ⟨.bl _,H,I,rfl,q⟩
theorem on_leS {K:PySem.W.Frag}:OpN2 K rLeS leS:=by
  intro P F H x y dx dy d Q hf hp rx ry k
  unfold leS at hf
  split at hf
  · cases hf
    exact ⟨_,_,repN_str rx,repN_str ry,k _ F H (Evo.refl hp) .bl⟩
  · cases hf
noncomputable def leA (x y:D):Option D:=(leI x y).or (leS x y)
theorem op_leA:OpR X (compareOp .LtE) (fun x y H Q=>rI0 (fun i j=>.bl (decide (i≤j))) x y H Q∨rLeS x y H Q):=op_le.or op_le_str
theorem on_leA {K:PySem.W.Frag}:OpN2 K (fun x y H Q=>rI0 (fun i j=>.bl (decide (i≤j))) x y H Q∨rLeS x y H Q) leA:=(on_int0 fun _ _ _=>.bl).or on_leS
noncomputable def chD (f g:D→D→Option D) (fa fb fc:DF→Option D):DF→Option D:=fun ρ=>(fa ρ).bind fun x=>(fb ρ).bind fun y=>match f x y with
  | some (.bl true)=>(fc ρ).bind fun z=>g y z
  | some (.bl false)=>some (.bl false)
  | _=>none
theorem tChain_d {K:PySem.W.Frag} {r r':R2} {f g:D→D→Option D} {fa fb fc:DF→Option D} (ho:OpN2 K r f) (ho':OpN2 K r' g):∀ σ H Q,tD K (chD f g fa fb fc) σ H Q→tChain r r' (tN K fa) (tN K fb) (tN K fc) σ H Q:=fun σ H Q=>un7 fun P F ρ d hf I k=>by
  unfold chD at hf
  cases ha:fa ρ with
  | none=>rw [ha] at hf; cases hf
  | some dx=>
  cases hb:fb ρ with
  | none=>rw [ha,Option.bind_some,hb] at hf; cases hf
  | some dy=>
  rw [ha,Option.bind_some,hb,Option.bind_some] at hf
  split at hf
  · rename_i hxy
    cases hc:fc ρ with
    | none=>rw [hc] at hf; cases hf
    | some dz=>
      rw [hc,Option.bind_some] at hf
      refine ⟨P,F,ρ,dx,ha,I,fun x F1 H1 e1 rx=>⟨P,F1,ρ,dy,hb,I.evo e1,fun y F2 H2 e2 ry=>?_⟩⟩
      refine ho P F2 H2 x y dx dy _ _ hxy e2.hp (rx.same (e2.same e1.hp)) ry fun v F3 H3 e3 rv=>?_
      cases rv
      refine ⟨true,rfl,?_⟩
      rw [if_pos rfl]
      have e123:=(e1.trans e2).trans e3
      refine ⟨P,F3,ρ,dz,hc,I.evo e123,fun z F4 H4 e4 rz=>?_⟩
      exact ho' P F4 H4 y z dy dz d Q hf e4.hp ((ry.same (e3.same e2.hp)).same (e4.same e3.hp)) rz fun v F5 H5 e5 rv=>k v F5 H5 ((e123.trans e4).trans e5) rv
  · rename_i hxy
    cases hf
    refine ⟨P,F,ρ,dx,ha,I,fun x F1 H1 e1 rx=>⟨P,F1,ρ,dy,hb,I.evo e1,fun y F2 H2 e2 ry=>?_⟩⟩
    refine ho P F2 H2 x y dx dy _ _ hxy e2.hp (rx.same (e2.same e1.hp)) ry fun v F3 H3 e3 rv=>?_
    cases rv
    refine ⟨false,rfl,?_⟩
    rw [if_neg Bool.false_ne_true]
    exact k _ F3 H3 ((e1.trans e2).trans e3) .bl
  · cases hf
theorem pd_chLL {fa fb fc:DF→Option D} (ha:PDN X a fa) (hb:PDN X b fb) (hc:PDN X c fc) (hm:lastMarks [CmpOp.LtE,CmpOp.LtE] [b,c]=false:=by with_unfolding_all rfl):PDE X (.Compare a [.LtE,.LtE] [b,c] pos) (chD leA leA fa fb fc):=(pe_chain op_leA op_leA ha hb hc hm).imp (tChain_d on_leA on_leA)
theorem pd_chLl {fa fb fc:DF→Option D} (ha:PDN X a fa) (hb:PDN X b fb) (hc:PDN X c fc) (hm:lastMarks [CmpOp.LtE,CmpOp.Lt] [b,c]=false:=by with_unfolding_all rfl):PDE X (.Compare a [.LtE,.Lt] [b,c] pos) (chD leA ltI fa fb fc):=(pe_chain op_leA op_lt ha hb hc hm).imp (tChain_d on_leA (on_int0 fun _ _ _=>.bl))
theorem pt_chLL {fa fb fc:DF→Option D} (ha:PDN X a fa) (hb:PDN X b fb) (hc:PDN X c fc) (hm:lastMarks [CmpOp.LtE,CmpOp.LtE] [b,c]=false:=by with_unfolding_all rfl):PDT X (.Compare a [.LtE,.LtE] [b,c] pos) (asB (chD leA leA fa fb fc)):=(pt_chain op_leA op_leA ha hb hc hm).imp (tTest_of (tChain_d on_leA on_leA))
noncomputable def OpN1 (K:PySem.W.Frag) (r:List V→Hp→VK→Prop) (f:D→Option D):Prop:=
  ∀ (P F H:Hp) (x:V) (dx d:D) (Q:VK),f dx=some d→DHp P F H→Rep K H x dx→(∀ v F' H',Evo P F H F' H'→Rep K F' v d→Q v H')→r [x] H Q
theorem tCB_n1 {K:PySem.W.Frag} {r:List V→Hp→VK→Prop} {f:D→Option D} {fa:DF→Option D} (ho:OpN1 K r f):∀ σ H Q,tD K (d1 f fa) σ H Q→tCB r (tCons (tN K fa) tNil) σ H Q:=fun σ H Q=>un7 fun P F ρ d hf I k=>by
  unfold d1 at hf
  cases ha:fa ρ with
  | none=>rw [ha] at hf; cases hf
  | some dx=>
    rw [ha,Option.bind_some] at hf
    exact ⟨P,F,ρ,dx,ha,I,fun x F1 H1 e1 rx=>ho P F1 H1 x dx d Q hf e1.hp rx fun v F2 H2 e2 rv=>k v F2 H2 (e1.trans e2) rv⟩
theorem on_len {K:PySem.W.Frag}:OpN1 K (rLenD K) lenD:=by
  intro P F H x dx d Q hf hp rx k
  unfold lenD at hf
  split at hf
  · cases hf
    cases rx with | lst h1 h2=>exact .inl ⟨_,_,rfl,.inl h1,by rw [h2.length]; exact k _ F H (Evo.refl hp) .int⟩
  · cases hf
    cases rx with | tup h1 h2=>exact .inl ⟨_,_,rfl,.inr (SqT.of h1),by rw [h2.length]; exact k _ F H (Evo.refl hp) .int⟩
  · split at hf
    · rename_i h
      cases hf
      exact .inr ⟨_,by rw [repN_str rx],by rw [sizeLine_eq]; exact h,k _ F H (Evo.refl hp) .int⟩
    · cases hf
  · cases hf
theorem pn_len {fa:DF→Option D} (hg:Gl X "len") (hm:X.mg "len"=none) (ha:PDN X e fa) (hs:starEach [e] X.env=[(false,eval e X.env)]:=by rfl) (hpl:(backTo pos (starEach [] X.env)).any (·.1)=false:=by rfl) :
    PDE X (.Call (.Name "len" p) [e] [] pos) (d1 lenD fa):=
  (pe_callB (call_len_seq.or call_len_str) hg hm PySem.boot_len (pa_cons ha pa_nil hs) (by decide) (by decide) hs hpl).imp (tCB_n1 on_len)
noncomputable def intD:D→Option D
  | .int i=>some (.int i)
  | .bl k=>some (.int (if k then 1 else 0))
  | _=>none
theorem on_int1 {K:PySem.W.Frag}:OpN1 K (fun xs H Q=>(∃ i,xs=[.int i]∧Q (.int i) H)∨∃ k,xs=[.bl k]∧Q (.int (if k then 1 else 0)) H) intD:=by
  intro P F H x dx d Q hf hp rx k
  unfold intD at hf
  split at hf
  · cases hf; cases rx; exact .inl ⟨_,rfl,k _ F H (Evo.refl hp) .int⟩
  · cases hf; cases rx; exact .inr ⟨_,rfl,k _ F H (Evo.refl hp) .int⟩
  · cases hf
theorem boot_int:bootBuiltins "int"=some (.type "int"):=by rfl
theorem boot_list:bootBuiltins "list"=some (.type "list"):=by rfl
theorem boot_tuple:bootBuiltins "tuple"=some (.type "tuple"):=by rfl
theorem boot_bool:bootBuiltins "bool"=some (.type "bool"):=by rfl
theorem boot_set:bootBuiltins "set"=some (.type "set"):=by rfl
theorem boot_isinstance:bootBuiltins "isinstance"=some (.builtin "isinstance"):=by rfl
theorem boot_all:bootBuiltins "all"=some (.builtin "all"):=by rfl
theorem boot_sorted:bootBuiltins "sorted"=some (.builtin "sorted"):=by rfl
theorem pd_intc {fa:DF→Option D} (hg:Gl X "int") (hm:X.mg "int"=none) (ha:PDN X e fa) (hs:starEach [e] X.env=[(false,eval e X.env)]:=by rfl) :
    PDE X (.Call (.Name "int" p) [e] [] pos) (d1 intD fa):=
  (pe_callTy call_int1 hg hm boot_int (pa_cons ha pa_nil hs) (he:=hs)).imp (tCB_n1 on_int1)
noncomputable def tupD:D→Option D
  | .lst ds=>some (.tup ds)
  | .tup ds=>some (.tup ds)
  | _=>none
theorem od_tup {K:PySem.W.Frag}:OpD1 K (fun xs H Q=>∃ p ys,xs=[.ref p]∧((SqL K H p ys∧∀ l,H l=none→Q (.ref l) (upd H l (.tup ys)))∨(SqT K H p ys∧Q (.ref p) H))) tupD:=by
  intro P F H ρ σ x dx d Q hf I rx k
  unfold tupD at hf
  split at hf
  · cases hf
    obtain ⟨p,vs,rfl,h1,h2⟩:=rep_lst I rx
    refine ⟨p,vs,rfl,.inl ⟨h1,fun l hl=>?_⟩⟩
    exact k _ _ _ (Evo.laid I.toDHp hl) (.tup upd_same (h2.same (same_upd (I.toDHp.free hl).1)))
  · cases hf
    rcases rx with rx | ⟨_,ob,_,_,_,z⟩
    · cases rx with | tup h1 h2=>exact ⟨_,_,rfl,.inr ⟨SqT.of (I.sub _ _ h1),k _ F H (Evo.refl I.toDHp) (.tup h1 h2)⟩⟩
    · cases ob <;> cases z
  · cases hf
theorem pd_tuple {fa:DF→Option D} (hg:Gl X "tuple") (hm:X.mg "tuple"=none) (ha:PDR X e fa) (hs:starEach [e] X.env=[(false,eval e X.env)]:=by rfl) :
    PDE X (.Call (.Name "tuple" p) [e] [] pos) (d1 tupD fa):=
  (pe_callTy call_tuple_of hg hm boot_tuple (pa_cons ha pa_nil hs) (he:=hs)).imp (tCB_d1 od_tup)
noncomputable def itemsL (f:DF→Option D):DF→Option (List D):=fun ρ=>(f ρ).bind itemsD
theorem pdo_list {fa:DF→Option D} (hg:Gl X "list") (hm:X.mg "list"=none) (ha:PDR X e fa) (hs:starEach [e] X.env=[(false,eval e X.env)]:=by rfl) :
    PDO X (.Call (.Name "list" p) [e] [] pos) (asL (itemsL fa)):=
  (pe_callTy call_list_of hg hm boot_list (pa_cons ha pa_nil hs) (he:=hs)).imp fun σ H Q=>un7 fun P F ρ ob hf I k=>by
    unfold asL itemsL at hf
    cases ha:fa ρ with
    | none=>rw [ha] at hf; cases hf
    | some dx=>
      rw [ha,Option.bind_some] at hf
      cases hi:itemsD dx with
      | none=>rw [hi] at hf; cases hf
      | some ds=>
        rw [hi] at hf
        cases hf
        refine ⟨P,F,ρ,dx,ha,I,fun x F1 H1 e1 rx=>?_⟩
        have I1:=I.evo e1
        have fin:∀ vs,Reps X.K F1 vs ds→∀ l,H1 l=none→Q (.ref l) (upd H1 l (.lst vs)):=fun vs r l hl=>
          k l F1 _ (e1.trans (Evo.side e1.hp hl)) ⟨⟨e1.back I.toDHp hl,(e1.hp.free hl).1⟩,_,upd_same,r⟩
        cases dx with
        | lst ds'=>
          cases hi
          obtain ⟨q,vs,rfl,h1,h2⟩:=rep_lst I1 rx
          exact ⟨q,vs,rfl,.inl h1,fin vs h2⟩
        | tup ds'=>
          cases hi
          obtain ⟨q,vs,rfl,h1,h2⟩:=rep_tup I1 rx
          exact ⟨q,vs,rfl,.inr h1,fin vs h2⟩
        | _=>cases hi
noncomputable def rCatL (K:PySem.W.Frag):R2:=fun x y H Q=>∃ l b xs zs,x=.ref l∧y=.ref b∧SqL K H l xs∧SqL K H b zs∧xs.length + zs.length≤sizeLine∧∀ p,H p=none→Q (.ref p) (upd H p (.lst (xs++zs)))
theorem op_catL:OpR X (binaryOp .Add) (rCatL X.K):=by
  intro pins s σ H x y v u Q I rx ry h
  obtain ⟨l,b,xs,zs,rfl,rfl,hH,hB,hz,q⟩:=h
  cases rx
  cases ry
  obtain ⟨its,r,p1,_⟩:=I.list hH
  obtain ⟨its2,r2,p2,_⟩:=I.list hB
  obtain ⟨⟨cls,dd,data,sl⟩,n,ho,hc,hdd,hd⟩:=p1
  obtain ⟨⟨cls2,dd2,data2,sl2⟩,n2,ho2,hc2,hdd2,hd2⟩:=p2
  simp only at hc hd hc2 hd2
  subst hc hd hc2 hd2
  have e1:=r.length
  have e2:=r2.length
  refine concat_meets ⟨_,ho,rfl⟩ ⟨_,ho2,rfl⟩ PySem.noFill_list_add PySem.seq_list_add PySem.F.slot_list_add PySem.F.entry_list_add (PySem.F.args_list_add_2 _ _) (list_addW l b its.toArray its2.toArray n n2 dd dd2 sl sl2 (by rw [List.size_toArray,List.size_toArray]; lia)) ⟨ho,ho2,?_⟩
  have ea:its.toArray++its2.toArray=(its++its2).toArray:=by simp
  rw [ea]
  exact ⟨.ref _,_,I.lnew (t':=s.toks) (r.append r2) (by rw [List.length_append]; lia),rfl,q _ I.fresh⟩
end
noncomputable def spM (K:PySem.W.Frag) (f:OD→List DV→Option (OD×D)):Sp:=fun vs H Q _=>∃ P F a vs' o xs o' d,vs=.ref a::vs'∧f o xs=some (o',d)∧DHp P F H∧F a=none∧P a=none∧o.flat=true∧(∃ u,H a=some u∧ORep1 K F o u)∧DVs K P F H xs vs' ∧
  ∀ v F' H',Same F F'→DHp P F' H'→F' a=none→(∃ u',H' a=some u'∧ORep1 K F' o' u')→o'.flat=true→Rep K F' v d→Q v H'
noncomputable def endsM (a:Addr) (o':OD) (d:D):RES→Prop
  | .nx ρ=>ρ[0]?=some (some (.own o' (some a)))∧d=.non
  | .rt x ρ=>x=.v d∧ρ[0]?=some (some (.own o' (some a)))
  | _=>False
theorem DInv.startM {K:PySem.W.Frag} {P F H:Hp} {xs:List DV} {vs:List V} {a:Addr} {o:OD} (N:List Str) (p:Nat) (h:DHp P F H) (hf:F a=none) (hp:P a=none) (fl:o.flat=true) (ho:∃ u,H a=some u∧ORep1 K F o u) (r:DVs K P F H xs vs) (hl:xs.length + 1=p) :
    DInv K P F H (startD N.length p (.own o (some a)::xs)) (L2.start N (.ref a::vs)):=by
  refine ⟨h,?_,fun b=>if b=a then some 0 else none,fun i x e=>?_⟩
  · unfold startD L2.start
    rw [List.length_append,List.length_append,List.length_map,List.length_map,List.length_replicate,List.length_replicate,List.length_cons,List.length_cons,← r.length,hl]
  · have e':=startD_get e
    cases i with
    | zero=>
      cases e'
      refine ⟨.ref a,start_get (i:=0) rfl,a,rfl,(ORep.flat fl).mpr ⟨⟨hf,hp,if_pos rfl⟩,ho⟩,fun b z=>by cases z; rfl⟩
    | succ i=>
      obtain ⟨hno,v,h1,h2⟩:=r.get (i:=i) (x:=x) e'
      refine ⟨v,start_get (i:=i + 1) (by simpa using h1),?_⟩
      cases x with
      | own o t=>cases hno
      | v d=>exact h2
      | bor o=>exact h2
theorem Fun.okM {P:Program} {w:World} {K:PySem.W.Frag} {mg:Str→Option Value} {base:Heap} {x qual:Str} {st:Stmt} {f:Addr} {fd:FuncData} {N ps:List Str} {k:Nat} {g:DF→Option RES} {m:OD→List DV→Option (OD×D)} (F:Fun K x qual st f fd) (S:FnScope N ps (defScope st))
    (hm:∀ a o xs o' d,m o xs=some (o',d)→xs.length + 1=ps.length∧o'.flat=true∧∃ r,g (startD N.length ps.length (.own o (some a)::xs))=some r∧endsM a o' d r)
    (hbody:∀ (cdv:Value) (A:Around) (outer:List Env) (s:Shared) (H:Hp) (E:XK),Room k (A.deeper (envOfC qual (defScope st) s.heap.objs.size f cdv))→
      PDS (cxOf CX0 P w K mg base N qual (defScope st) f cdv A outer s H E).nox (defBody st) g):FnOk P w K mg base CX0 (k + 1) f fd ps (spM K m):=by
  refine F.ok S (fun vs H Q E hh_=>?_) fun cdv A outer s H vs Q E hr h=>?_
  · obtain ⟨P',F',a,vs',o,xs,o',d,e,h1,_,_,_,_,_,hv,_⟩:=hh_
    rw [e,List.length_cons,← hv.length]; exact (hm 0 o xs o' d h1).1
  · refine ⟨_,hbody cdv A outer s H E hr,?_⟩
    obtain ⟨P',F',a,vs',o,xs,o',d,rfl,h1,hp,hf,hP,fl,ho,hv,hQ⟩:=h
    obtain ⟨hl,fl',r,hg,he⟩:=hm a o xs o' d h1
    have I:=DInv.startM N ps.length hp hf hP fl ho hv hl
    refine ⟨P',F',_,r,hg,I,?_⟩
    have fin:∀ (ρ:DF) (σ:St) (F2 H2:Hp) (v:V),ρ[0]?=some (some (.own o' (some a)))→Same F' F2→DInv K P' F2 H2 ρ σ→Rep K F2 v d→Q v H2:=fun ρ σ F2 H2 v h0 e I2 rv=>by
      obtain ⟨v',_,a',rfl,h3,h4⟩:=I2.at h0
      have ea:=h4 a rfl
      subst ea
      obtain ⟨⟨q1,q2,_⟩,u,q3,q4⟩:=(ORep.flat fl').mp h3
      exact hQ v F2 H2 e I2.toDHp q1 ⟨u,q3,q4⟩ fl' rv
    cases r with
    | nx ρ=>(obtain ⟨h0,rfl⟩:=he; exact fun σ F2 H2 e I2=>fin ρ σ F2 H2 .non h0 e I2 .non)
    | rt x ρ=>(obtain ⟨rfl,h0⟩:=he; exact fun v σ F2 H2 e I2 rv=>fin ρ σ F2 H2 v h0 e I2 rv)
    | bk ρ=>exact he.elim
    | ct ρ=>exact he.elim
noncomputable def gdx (F H:Hp) (a:Addr):Hp:=fun b=>if b=a then none else gd F H b
theorem gdx_eq {F H:Hp} {a b:Addr} {o:HO}:gdx F H a b=some o↔b≠a∧F b=none∧H b=some o:=by
  unfold gdx
  by_cases h:b=a
  · rw [if_pos h]; simp [h]
  · rw [if_neg h,gd_eq]; simp [h]
theorem gdx_hp {F H:Hp} (s:Same F H) (a:Addr):DHp (gdx F H a) F H:=⟨s,fun b o e=>(gdx_eq.mp e).2.2,fun b o e=>(gdx_eq.mp e).2.1⟩
theorem ArgsS.dvx {K:PySem.W.Frag} {P F H:Hp} {ρ:DF} {σ:St} (I:DInv K P F H ρ σ) {i:Nat} {o:OD} {t:Option Addr} {a:Addr} (hi:ρ[i]?=some (some (.own o t))) (hs:σ[i]?=some (some (.ref a))) (fl:o.flat=true):∀ {xs:List DV} {vs:List V},ArgsS K ρ σ F xs vs→(∀ x∈xs,∃ d,x=.v d)→DVs K (gdx F H a) F H xs vs:=by
  intro xs vs h
  induction h with
  | nil=>exact fun _=>.nil
  | v h _ ih=>exact fun hx=>.cons rfl h (ih fun x m=>hx x (List.mem_cons_of_mem _ m))
  | b j h1 h2 _ ih=>
    intro hx
    obtain ⟨d,e⟩:=hx _ List.mem_cons_self
    cases e
noncomputable def allV (xs:List DV):Bool:=xs.all fun x=>match x with
  | .v _=>true
  | _=>false
theorem allV_v {xs:List DV} (h:allV xs=true):∀ x∈xs,∃ d,x=.v d:=fun x m=>by
  have:=List.all_eq_true.mp h x m
  cases x with
  | v d=>exact ⟨d,rfl⟩
  | _=>cases this
noncomputable def tMcall (K:PySem.W.Frag) (i:Nat) (m:OD→List DV→Option (OD×D)) (g:DF→Option (List DV)):DF→Option (DF×D):=fun ρ=>match ρ[i]? with
  | some (some (.own o t))=>if o.flat=true then (g ρ).bind fun xs=>if allV xs=true then (m o xs).map fun r=>(ρ.set i (some (.own r.1 t)),r.2) else none else none
  | _=>none
noncomputable def dMcall (K:PySem.W.Frag) (i:Nat) (m:OD→List DV→Option (OD×D)) (g:DF→Option (List DV)):DF→Option RES:=fun ρ=>(tMcall K i m g ρ).map fun r=>.nx r.1
theorem mcall_back {K:PySem.W.Frag} {P F1 H1 F2 H2:Hp} {ρ:DF} {σ:St} {i:Nat} {o o':OD} {t:Option Addr} {a:Addr} (I:DInv K P F1 H1 ρ σ) (hi:ρ[i]?=some (some (.own o t))) (hs:σ[i]?=some (some (.ref a))) (fl:o.flat=true) (fl':o'.flat=true)
    (e2:Same F1 F2) (hp2:DHp (gdx F1 H1 a) F2 H2) (f2:F2 a=none) (ho:∃ u',H2 a=some u'∧ORep1 K F2 o' u'):DInv K P F2 H2 (ρ.set i (some (.own o' t))) σ:=by
  obtain ⟨O,hR⟩:=I.rep
  obtain ⟨v,h1,b,rfl,h2,ht⟩:=hR i _ hi
  rw [hs] at h1; cases h1
  obtain ⟨⟨q1,q2,q3⟩,u,q4,_⟩:=(ORep.flat fl).mp h2
  have keep:∀ b u,b≠a→F1 b=none→H1 b=some u→H2 b=some u∧F2 b=none:=fun b u hb n q=>⟨hp2.pro b u (gdx_eq.mpr ⟨hb,n,q⟩),hp2.dis b u (gdx_eq.mpr ⟨hb,n,q⟩)⟩
  refine ⟨⟨hp2.sub,fun b u q=>(keep b u (fun z=>by subst z; rw [q2] at q; cases q) (I.dis b u q) (I.pro b u q)).1,fun b u q=>(keep b u (fun z=>by subst z; rw [q2] at q; cases q) (I.dis b u q) (I.pro b u q)).2⟩,by rw [List.length_set]; exact I.len,O,fun j z hj=>?_⟩
  rcases set_get hj with ⟨rfl,e,hl⟩ | ⟨hij,hj'⟩
  · cases e
    exact ⟨_,hs,a,rfl,(ORep.flat fl').mpr ⟨⟨f2,q2,q3⟩,ho⟩,ht⟩
  · obtain ⟨w,e1,e3⟩:=hR j z hj'
    refine ⟨w,e1,?_⟩
    cases z with
    | v d'=>exact Rep.same e2 e3
    | own od t'=>
      obtain ⟨c,rfl,e4,ht'⟩:=e3
      refine ⟨c,rfl,e4.mono e2 fun b w' q hb=>?_,ht'⟩
      obtain ⟨k1,k2⟩:=keep b w' (fun z=>by subst z; rw [q.2.2] at q3; exact hij (Option.some.inj q3).symm) q.1 hb
      exact ⟨k1,k2,q.2⟩
    | bor od=>(obtain ⟨c,rfl,e4⟩:=e3; exact ⟨c,rfl,e4.mono e2 fun b u q hb=>⟨hb,q⟩⟩)
section
variable {X:Cx} {k:Nat} {f C:Addr} {fd:FuncData} {ps:List Str} {m:List DV→Option DV} {mM:OD→List DV→Option (OD×D)} {x mn:Str} {p pos apos spos:Pos} {e o:Expr} {es:List Expr} {g:DF→Option (List DV)}
theorem pd_mcall (i:Nat) (G:FnOk X.prog X.w X.K X.mg X.base CX0 k f fd ps (spM X.K mM)) (hr:Room k X.A) (hg:Gl X x) (hm:X.mg x=some (.ref f)) (hk:PySem.W.keepIn X.K (.ref f)=true) (hb:Binds X.K fd ps []) (h0:PE X e (tVar i)) (ha:PDAV X es g)
    (hd:(x == ("__debug__":Str))=false:=by decide) (he:starEach (e::es) X.env=(false,eval e X.env)::starEach es X.env:=by rfl) (hpl:(backTo pos (starEach es X.env)).any (·.1)=false:=by rfl) (hsw:swapsWith (.Call (.Name x p) (e::es) [] pos) none spos.line X.env=pure false:=by rfl) :
    PD1 X (.Expr (.Call (.Name x p) (e::es) [] pos) spos) (dMcall X.K i mM g):=
  PS.imp (ps_expr (pe_call G hr hg hm hk hb .nil pass0 (pa_cons h0 ha he) hd he hpl) hsw) fun E σ H=>un7 fun P F ρ r hr I k=>by
    unfold dMcall tMcall at hr
    split at hr
    · rename_i od t q
      split at hr
      · rename_i fl
        cases q2:g ρ with
        | none=>rw [q2] at hr; cases hr
        | some xs=>
          rw [q2,Option.bind_some] at hr
          split at hr
          · rename_i av
            cases q3:mM od xs with
            | none=>rw [q3] at hr; cases hr
            | some res=>
              rw [q3] at hr
              cases hr
              obtain ⟨v,h1,a,rfl,h2,h3⟩:=I.at q
              obtain ⟨⟨a1,a2,_⟩,u,a3,a4⟩:=(ORep.flat fl).mp h2
              refine ⟨_,h1,P,F,ρ,xs,q2,I,fun vs F1 H1 e1 r1=>?_⟩
              have I1:=I.evo e1
              obtain ⟨k1,k2⟩:=e1.keep a u a3 a1
              refine ⟨gdx F1 H1 a,F1,a,vs,od,xs,res.1,res.2,by simp,q3,gdx_hp I1.sub a,k2,by unfold gdx; rw [if_pos rfl],fl,⟨u,k1,a4.same e1.ext⟩,r1.dvx I1 q h1 fl (allV_v av),fun v F2 H2 e2 hp2 f2 ho fl' rv=>?_⟩
              exact k σ F2 H2 (e1.ext.trans e2) (mcall_back I1 q h1 fl fl' e2 hp2 f2 ho)
          · cases hr
      · cases hr
    · cases hr
theorem RepsF.look {K:PySem.W.Frag} {H:Hp} {n:Str} {vs:List (Str×V)} {ds:List (Str×D)} {d:D} (h:RepsF K H vs ds):ds.lookup n=some d→∃ v,vs.lookup n=some v∧Rep K H v d:=
  RepsF.ind (M:=fun vs ds=>ds.lookup n=some d→∃ v,vs.lookup n=some v∧Rep K H v d) (fun e=>by cases e) (fun h _ ih e=>by
    rw [look_cons] at e ⊢
    split at e
    · rename_i q; cases e; rw [if_pos q]; exact ⟨_,rfl,h⟩
    · rename_i q; rw [if_neg q]; exact ih e) h
theorem RepsF.no {K:PySem.W.Frag} {H:Hp} {n:Str} {vs:List (Str×V)} {ds:List (Str×D)} (h:RepsF K H vs ds):ds.lookup n=none→vs.lookup n=none:=
  RepsF.ind (M:=fun vs ds=>ds.lookup n=none→vs.lookup n=none) (fun _=>rfl) (fun _ _ ih e=>by
    rw [look_cons] at e ⊢
    split at e
    · cases e
    · rename_i q; rw [if_neg q]; exact ih e) h
noncomputable def fldC (C:Addr) (n:Str):D→Option D
  | .ins C' fs=>if C'=C then fs.lookup n else none
  | _=>none
theorem pd_fld {fa:DF→Option D} {n:Str} (c:Cls X.K C) (hn:NoAttr X.K C n) (h:PDR X e fa) (hb:attributeBase e n X.env (eval e X.env)=eval e X.env:=by rfl):PDE X (.Attribute e n pos) (d1 (fldC C n) fa):=
  (pe_fld h hb).imp fun σ H Q=>un7 fun P F ρ d hf I k=>by
    unfold d1 at hf
    cases q:fa ρ with
    | none=>rw [q] at hf; cases hf
    | some dx=>
      rw [q,Option.bind_some] at hf
      refine ⟨P,F,ρ,dx,q,I,fun y F1 H1 e1 rx=>?_⟩
      cases dx with
      | ins C' fs=>
        have hf':(if C'=C then fs.lookup n else none)=some d:=hf
        split at hf'
        · rename_i hC
          subst hC
          obtain ⟨a,dx,vs,rfl,h1,h2⟩:=rep_ins (I.evo e1) rx
          obtain ⟨v,h3,h4⟩:=h2.look hf'
          exact ⟨a,C',dx,vs,v,rfl,h1,c,hn,h3,k v F1 H1 e1 h4⟩
        · cases hf'
      | _=>cases hf
noncomputable def putFD (f:Str) (v:D):List (Str×D)→List (Str×D)
  | []=>[(f,v)]
  | (g,x)::r=>if g=f then (g,v)::r else (g,x)::putFD f v r
theorem RepsF.put {K:PySem.W.Frag} {H:Hp} {n:Str} {v:V} {d:D} (rv:Rep K H v d) {vs:List (Str×V)} {ds:List (Str×D)} (h:RepsF K H vs ds):RepsF K H (putF n v vs) (putFD n d ds):=
  RepsF.ind (M:=fun vs ds=>RepsF K H (putF n v vs) (putFD n d ds)) (.cons rv .nil) (fun {k _ _ _ _} h r ih=>by
    unfold putF putFD
    by_cases q:k=n
    · rw [if_pos q,if_pos q]; exact .cons rv r
    · rw [if_neg q,if_neg q]; exact .cons h ih) h
theorem RepsF.length {K:PySem.W.Frag} {H:Hp} {vs:List (Str×V)} {ds:List (Str×D)} (h:RepsF K H vs ds):vs.length=ds.length:=RepsF.ind (M:=fun vs ds=>vs.length=ds.length) rfl (fun _ _ ih=>congrArg Nat.succ ih) h
noncomputable def dSetF (C:Addr) (i:Nat) (n:Str) (fv:DF→Option D):DF→Option RES:=fun ρ=>match ρ[i]? with
  | some (some (.own (.ins C' fs) t))=>if C'=C then (fv ρ).bind fun d=>if fs.length < 1000 then some (.nx (ρ.set i (some (.own (.ins C (putFD n d fs)) t)))) else none else none
  | _=>none
theorem pd_setF {value:Expr} {n:Str} {fv:DF→Option D} {pos':Pos} (i:Nat) (c:Cls X.K C) (hn:NoAttr X.K C n) (ho:PE X o (tVar i)) (hv:PDE X value fv) (hs:swapsWith value (some (.Attribute o n pos')) pos.line X.env=pure false:=by rfl) :
    PD1 X (.Assign [.Attribute o n pos'] value pos) (dSetF C i n fv):=PS.imp (ps_fld ho hv hs) fun E σ H=>un7 fun P F ρ r hr I k=>by
  unfold dSetF at hr
  split at hr
  · rename_i C' fs t q
    split at hr
    · rename_i hC
      subst hC
      cases q2:fv ρ with
      | none=>rw [q2] at hr; cases hr
      | some d=>
        rw [q2,Option.bind_some] at hr
        split at hr
        · rename_i hl
          cases hr
          obtain ⟨v,h1,a,rfl,⟨⟨a1,a2,_⟩,u,a3,a4⟩,_⟩:=I.at q
          cases u with
          | ins C'' dx vs=>
            obtain ⟨rfl,a4⟩:=a4
            refine ⟨P,F,ρ,d,q2,I,fun y F1 H1 e1 ry=>⟨_,h1,a,C',dx,vs,rfl,(e1.keep a _ a3 a1).1,c,hn,by rw [a4.length]; exact hl,k σ F1 _ e1.ext ?_⟩⟩
            exact (I.evo e1).mut (o':=.ins C' _) (u:=.ins C' dx _) q rfl rfl h1 ⟨rfl,(RepsF.same e1.ext a4).put ry⟩
          | _=>exact a4.elim
        · cases hr
    · cases hr
  · cases hr
noncomputable def insOf (C:Addr):DV→Option (List (Str×D))
  | .v (.ins C' fs)=>if C'=C then some fs else none
  | .bor (.ins C' fs)=>if C'=C then some fs else none
  | _=>none
noncomputable def selfC (C:Addr) (mn:Str):List DV→Bool
  | x::_=>match insOf C x with
    | some fs=>(fs.lookup mn).isNone
    | none=>false
  | []=>false
noncomputable def callMV (C:Addr) (mn:Str) (m:List DV→Option DV) (g:DF→Option (List DV)):DF→Option D:=fun ρ=>(g ρ).bind fun xs=>if selfC C mn xs=true then (m xs).bind dvD else none
end
theorem DVs.heap {K:PySem.W.Frag} {P F H H':Hp} {xs:List DV} {vs:List V} (h:DVs K P F H xs vs):DVs K P F H' xs vs:=by
  induction h with
  | nil=>exact .nil
  | @cons x _ _ _ h r _ ih=>
    refine .cons h ?_ ih
    cases x with
    | v d=>exact r
    | bor o=>exact r
    | own o t=>cases h
noncomputable def selfB (i:Nat):DF→Option DV:=fun ρ=>match ρ[i]? with
  | some (some (.own o _))=>some (.bor o)
  | some (some (.bor o))=>some (.bor o)
  | some (some (.v d))=>some (.v d)
  | _=>none
noncomputable def mArgs (s:DF→Option DV) (g:DF→Option (List DV)):DF→Option (List DV):=fun ρ=>(s ρ).bind fun x=>(g ρ).map fun xs=>x::xs
noncomputable def g0:DF→Option (List DV):=fun _=>some []
noncomputable def Self1 (K:PySem.W.Frag) (ρ:DF) (σ:St) (F:Hp) (x:DV) (v:V):Prop:=ArgsS K ρ σ F [x] [v]
theorem Self1.cons {K:PySem.W.Frag} {ρ:DF} {σ:St} {F F':Hp} {x:DV} {v:V} {xs:List DV} {vs:List V} (h:Self1 K ρ σ F x v) (e:Same F F') (r:ArgsS K ρ σ F' xs vs):ArgsS K ρ σ F' (x::xs) (v::vs):=by
  cases h with
  | v h _=>exact .v (h.same e) r
  | b i h1 h2 _=>exact .b i h1 h2 r
theorem Self1.ins {K:PySem.W.Frag} {P F H:Hp} {ρ:DF} {σ:St} {x:DV} {v:V} {C:Addr} {fs:List (Str×D)} (I:DInv K P F H ρ σ) (h:Self1 K ρ σ F x v) (hi:insOf C x=some fs):∃ a dx vs,v=.ref a∧H a=some (.ins C dx vs)∧RepsF K F vs fs:=by
  cases h with
  | @v d _ _ _ h _=>
    cases d with
    | ins C' fs'=>
      have hi':(if C'=C then some fs' else none)=some fs:=hi
      split at hi'
      · rename_i hC
        subst hC
        cases hi'
        exact rep_ins I (.inl h)
      · cases hi'
    | _=>cases hi
  | @b o _ _ _ i h1 h2 _=>
    cases o with
    | ins C' fs'=>
      have hi':(if C'=C then some fs' else none)=some fs:=hi
      split at hi'
      · rename_i hC
        subst hC
        cases hi'
        exact rep_ins I (.inr ⟨i,_,h1,h2,rfl,rfl⟩)
      · cases hi'
    | _=>cases hi
noncomputable def tSelf (K:PySem.W.Frag) (s:DF→Option DV):TE:=fun σ H Q=>∃ P F ρ x,s ρ=some x∧DInv K P F H ρ σ∧∀ v F' H',Evo P F H F' H'→Self1 K ρ σ F' x v→Q v H'
noncomputable def PDSelf (X:Cx) (e:Expr) (s:DF→Option DV):Prop:=PE X e (tSelf X.K s)
section
variable {X:Cx} {k:Nat} {f C:Addr} {fd:FuncData} {ps:List Str} {m:List DV→Option DV} {mM:OD→List DV→Option (OD×D)} {x mn:Str} {p pos apos spos:Pos} {e o:Expr} {es:List Expr} {g:DF→Option (List DV)} {s:DF→Option DV}
theorem pself_b (i:Nat) (h:PE X e (tVar i)):PDSelf X e (selfB i):=PE.imp h fun σ H Q=>un7 fun P F ρ x hf I k=>by
  unfold selfB at hf
  split at hf
  · rename_i o t q
    cases hf
    obtain ⟨v,h1,_⟩:=I.at q
    exact ⟨v,h1,k v F H (Evo.refl I.toDHp) (.b i h1 (.inl ⟨t,q⟩) .nil)⟩
  · rename_i o q
    cases hf
    obtain ⟨v,h1,_⟩:=I.at q
    exact ⟨v,h1,k v F H (Evo.refl I.toDHp) (.b i h1 (.inr q) .nil)⟩
  · rename_i d q
    cases hf
    obtain ⟨v,h1,h2⟩:=I.at q
    exact ⟨v,h1,k v F H (Evo.refl I.toDHp) (.v h2 .nil)⟩
  · cases hf
theorem selfC_some {C:Addr} {mn:Str} {x:DV} {xs:List DV} (h:selfC C mn (x::xs)=true):∃ fs,insOf C x=some fs∧fs.lookup mn=none:=by
  unfold selfC at h
  cases q:insOf C x with
  | none=>simp [q] at h
  | some fs=>exact ⟨fs,rfl,by simpa [q] using h⟩
theorem tMeth_of {K:PySem.W.Frag} {E:XK} {σ:St} {H:Hp} {Q:VK} {P F:Hp} {ρ:DF} {xs:List DV} {y:DV} (hg:mArgs s g ρ=some xs) (hs:selfC C mn xs=true) (hm:m xs=some y) (I:DInv K P F H ρ σ)
    (k:∀ v F1 H1 F2 H2,Evo P F H F1 H1→Same F1 F2→DHp (gd F1 H1) F2 H2→DVRep K (gd F1 H1) F2 H2 anyA y v→Q v H2):tMeth C mn (spD K m) [] E (tSelf K s) (tLV K g) σ H Q:=by
  unfold mArgs at hg
  cases q:s ρ with
  | none=>rw [q] at hg; cases hg
  | some x=>
    rw [q,Option.bind_some] at hg
    cases q2:g ρ with
    | none=>rw [q2] at hg; cases hg
    | some ys=>
      rw [q2] at hg
      cases hg
      obtain ⟨fs,hi,hl⟩:=selfC_some hs
      refine ⟨P,F,ρ,x,q,I,fun v F1 H1 e1 r1=>?_⟩
      have I1:=I.evo e1
      obtain ⟨a,dx,vs,rfl,h1,h2⟩:=r1.ins I1 hi
      refine ⟨a,dx,vs,rfl,h1,h2.no hl,P,F1,ρ,ys,q2,I1,fun ws F2 H2 e2 r2=>?_⟩
      have I2:=I1.evo e2
      refine ⟨gd F2 H2,F2,x::ys,y,hm,gd_hp I2.sub,by rw [List.append_nil]; exact (r1.cons e2.ext r2).dvs I2,fun w F3 H3 e3 hp3 r3=>k w F2 H2 F3 H3 (e1.trans e2) e3 hp3 r3⟩
theorem tMeth_v {K:PySem.W.Frag} {E:XK}:∀ σ H Q,tD K (callMV C mn m (mArgs s g)) σ H Q→tMeth C mn (spD K m) [] E (tSelf K s) (tLV K g) σ H Q:=fun σ H Q=>un7 fun P F ρ d hf I k=>by
  unfold callMV at hf
  cases q:mArgs s g ρ with
  | none=>rw [q] at hf; cases hf
  | some xs=>
    rw [q,Option.bind_some] at hf
    split at hf
    · rename_i hs
      cases q2:m xs with
      | none=>rw [q2] at hf; cases hf
      | some y=>
        rw [q2,Option.bind_some] at hf
        refine tMeth_of q hs q2 I fun v F1 H1 F2 H2 e1 e2 hp2 r2=>?_
        have I1:=I.evo e1
        have ev:Evo P F1 H1 F2 H2:=I1.toDHp.gd e2 hp2
        cases y with
        | v d'=>cases hf; exact k v F2 H2 (e1.trans ev) r2
        | own o t=>
          cases hf
          obtain ⟨a,rfl,ho,_⟩:=r2
          have ho':=ret_own e2 ho
          exact k _ _ H2 (e1.trans (ev.freeze I1.toDHp (fun b=>H1 b=none∧F2 b=none) fun _ q=>q)) (ho'.rep (frzH_same fun b q=>q.2) fun b u q hb=>by rw [frzH_yes q]; exact hb)
        | bor o=>cases hf
    · cases hf
theorem pd_meth {pl:Sem Bool} (he:PDSelf X o s) (c:Cls X.K C) (hm:Meth X.K C mn f) (G:FnOk X.prog X.w X.K X.mg X.base CX0 k f fd ps (spD X.K m)) (hr:Room k X.A) (hb:Binds X.K fd ps []) (ha:PDAV X (e::es) g)
    (hst:starEach (e::es) X.env=(false,eval e X.env)::starEach es X.env:=by rfl) (hpl:(backTo pos (starEach es X.env)).any (·.1)=false:=by rfl)
    (ht:eval (.Call (.Attribute o mn apos) (e::es) [] pos) X.env=(do
      let ov ← eval o X.env
      standAt apos.atName
      let (f,first) ← holding [ov] (getMethod ov mn pl)
      callWith pos f first (backTo pos (starEach (e::es) X.env)) (backToKw pos (keywordEach [] X.env))):=by rfl):PDE X (.Call (.Attribute o mn apos) (e::es) [] pos) (callMV C mn m (mArgs s g)):=
  (pe_meth he c hm G hr hb .nil pass0 ha hst hpl ht).imp tMeth_v
theorem pd_meth0 {pl:Sem Bool} (he:PDSelf X o s) (c:Cls X.K C) (hm:Meth X.K C mn f) (G:FnOk X.prog X.w X.K X.mg X.base CX0 k f fd ps (spD X.K m)) (hr:Room k X.A) (hb:Binds X.K fd ps [])
    (ht:eval (.Call (.Attribute o mn apos) [] [] pos) X.env=(do
      let ov ← eval o X.env
      standAt apos.atName
      let (f,first) ← holding [ov] (getMethod ov mn pl)
      callWith pos f first (backTo pos (starEach [] X.env)) (backToKw pos (keywordEach [] X.env))):=by rfl):PDE X (.Call (.Attribute o mn apos) [] [] pos) (callMV C mn m (mArgs s g0)):=
  (pe_meth0 he c hm G hr hb .nil pass0 ht).imp fun σ H Q h=>by
    have:=tMeth_v (K:=X.K) (E:=E0) σ H Q h
    obtain ⟨P,F,ρ,x,h1,h2,h3⟩:=this
    refine ⟨P,F,ρ,x,h1,h2,fun v F' H' ev r=>?_⟩
    obtain ⟨a,dx,fs,ex,ea,l,P2,F2,ρ2,xs,hx,I2,h4⟩:=h3 v F' H' ev r
    cases hx
    exact ⟨a,dx,fs,ex,ea,l,h4 [] F2 H' (Evo.refl I2.toDHp) .nil⟩
noncomputable def makeO (C:Addr) (mM:OD→List DV→Option (OD×D)) (g:DF→Option (List DV)):DF→Option OD:=fun ρ=>(g ρ).bind fun xs=>match mM (.ins C []) xs with
  | some (o',.non)=>if o'.flat=true then some o' else none
  | _=>none
theorem pdo_make (M:Mk X.K C f) (G:FnOk X.prog X.w X.K X.mg X.base CX0 k f fd ps (spM X.K mM)) (hr:Room (k + 1) X.A) (hg:Gl X x) (hm:X.mg x=some (.ref C)) (hb:Binds X.K fd ps []) (ha:PDAV X (e::es) g)
    (hdb:(x == ("__debug__":Str))=false:=by decide) (he:starEach (e::es) X.env=(false,eval e X.env)::starEach es X.env:=by rfl) (hpl:(backTo pos (starEach es X.env)).any (·.1)=false:=by rfl):PDO X (.Call (.Name x p) (e::es) [] pos) (makeO C mM g):=
  (pe_make M G hr hg hm hb .nil pass0 ha hdb he hpl).imp fun σ H Q=>un7 fun P F ρ ob hf I k=>by
    unfold makeO at hf
    cases q:g ρ with
    | none=>rw [q] at hf; cases hf
    | some xs=>
      rw [q,Option.bind_some] at hf
      split at hf
      · rename_i o' q2
        split at hf
        · rename_i fl
          cases hf
          refine ⟨P,F,ρ,xs,q,I,fun vs F1 H1 e1 r1 y dx hy hdx hne=>?_⟩
          have I1:=I.evo e1
          have sm:Same H1 (upd (upd H1 dx (.own y)) y (.ins C dx [])):=fun b u z=>by rw [upd_ne (ne_of_none z hy),upd_ne (ne_of_none z hdx)]; exact z
          refine ⟨gd F1 H1,F1,y,vs,.ins C [],xs,ob,.non,by simp,q2,⟨I1.sub.trans sm,fun b u z=>sm b u ((gd_hp I1.sub).pro b u z),(gd_hp I1.sub).dis⟩,I1.sub.free hy,(gd_hp I1.sub).pro.free hy,rfl,⟨_,upd_same,rfl,.nil⟩,(r1.dvs I1).heap,fun v F2 H2 e2 hp2 f2 ho fl' rv=>?_⟩
          cases rv
          exact ⟨rfl,k y F2 H2 (e1.trans (I1.toDHp.gd e2 hp2)) ((ORep.flat fl).mpr ⟨⟨e1.back I.toDHp hy,f2⟩,ho⟩)⟩
        · cases hf
      · cases hf
end
section
variable {κ:Type} [DecidableEq κ]
noncomputable def valD (kvs:List (κ×D)) (k:κ):Option D:=(kvs.find? fun kv=>decide (kv.1=k)).map (·.2)
noncomputable def putD (kvs:List (κ×D)) (k:κ) (v:D):List (κ×D):=
  if (kvs.any fun kv=>decide (kv.1=k))=true then kvs.map (fun kv=>if kv.1=k then (kv.1,v) else kv) else kvs++[(k,v)]
end
theorem valV_cons {k k':List Key} {v:V} {vs:List (List Key×V)}:valV ((k',v)::vs) k=if k'=k then some v else valV vs k:=by
  unfold valV
  by_cases q:k'=k <;> simp [List.find?_cons,q]
theorem valD_cons {κ:Type} [DecidableEq κ] {k k':κ} {v:D} {vs:List (κ×D)}:valD ((k',v)::vs) k=if k'=k then some v else valD vs k:=by
  unfold valD
  by_cases q:k'=k <;> simp [List.find?_cons,q]
theorem RepsT.val {K:PySem.W.Frag} {H:Hp} {k:List Key} {vs:List (List Key×V)} {ds:List (List Key×D)} (h:RepsT K H vs ds):(valV vs k=none∧valD ds k=none)∨∃ v d,valV vs k=some v∧valD ds k=some d∧Rep K H v d:=
  RepsT.ind (M:=fun vs ds=>(valV vs k=none∧valD ds k=none)∨∃ v d,valV vs k=some v∧valD ds k=some d∧Rep K H v d) (.inl ⟨rfl,rfl⟩) (fun {k' v d vs ds} h _ ih=>by
    rw [valV_cons,valD_cons]
    by_cases q:k'=k
    · rw [if_pos q,if_pos q]
      exact .inr ⟨v,d,rfl,rfl,h⟩
    · rw [if_neg q,if_neg q]
      exact ih) h
theorem RepsT.any {K:PySem.W.Frag} {H:Hp} {k:List Key} {vs:List (List Key×V)} {ds:List (List Key×D)} (h:RepsT K H vs ds):(vs.any fun kv=>decide (kv.1=k))=ds.any fun kv=>decide (kv.1=k):=
  RepsT.ind (M:=fun vs ds=>(vs.any fun kv=>decide (kv.1=k))=ds.any fun kv=>decide (kv.1=k)) rfl (fun _ _ ih=>by rw [List.any_cons,List.any_cons,ih]) h
theorem RepsT.map {K:PySem.W.Frag} {H:Hp} {k:List Key} {v:V} {d:D} (rv:Rep K H v d) {vs:List (List Key×V)} {ds:List (List Key×D)} (h:RepsT K H vs ds):RepsT K H (vs.map fun kv=>if kv.1=k then (kv.1,v) else kv) (ds.map fun kv=>if kv.1=k then (kv.1,d) else kv):=
  RepsT.ind (M:=fun vs ds=>RepsT K H (vs.map fun kv=>if kv.1=k then (kv.1,v) else kv) (ds.map fun kv=>if kv.1=k then (kv.1,d) else kv)) .nil (fun {k' v' d' vs ds} h _ ih=>by
    rw [List.map_cons,List.map_cons]
    by_cases q:k'=k
    · rw [if_pos (show (k',v').1=k from q),if_pos (show (k',d').1=k from q)]; exact .cons rv ih
    · rw [if_neg (show ¬ (k',v').1=k from q),if_neg (show ¬ (k',d').1=k from q)]; exact .cons h ih) h
theorem RepsT.snoc {K:PySem.W.Frag} {H:Hp} {k:List Key} {v:V} {d:D} (rv:Rep K H v d) {vs:List (List Key×V)} {ds:List (List Key×D)} (h:RepsT K H vs ds):RepsT K H (vs++[(k,v)]) (ds++[(k,d)]):=
  RepsT.ind (M:=fun vs ds=>RepsT K H (vs++[(k,v)]) (ds++[(k,d)])) (.cons rv .nil) (fun h _ ih=>.cons h ih) h
theorem RepsT.put {K:PySem.W.Frag} {H:Hp} {k:List Key} {v:V} {d:D} {vs:List (List Key×V)} {ds:List (List Key×D)} (rv:Rep K H v d) (r:RepsT K H vs ds):RepsT K H (putK vs k v) (putD ds k d):=by
  unfold putK putD
  rw [r.any (k:=k)]
  split
  · exact r.map rv
  · exact r.snoc rv
theorem RepsT.length {K:PySem.W.Frag} {H:Hp} {vs:List (List Key×V)} {ds:List (List Key×D)} (h:RepsT K H vs ds):vs.length=ds.length:=RepsT.ind (M:=fun vs ds=>vs.length=ds.length) rfl (fun _ _ ih=>congrArg Nat.succ ih) h
noncomputable def dKey:D→Option Key
  | .int i=>some (.inl i)
  | .str x=>some (.inr x)
  | _=>none
noncomputable def keysOf:List D→Option (List Key)
  | []=>some []
  | d::ds=>(dKey d).bind fun k=>(keysOf ds).map fun r=>k::r
noncomputable def keyT:D→Option (List Key)
  | .tup ds=>keysOf ds
  | _=>none
theorem Reps.keys {K:PySem.W.Frag} {H:Hp} {vs:List V} {ds:List D} {ks:List Key} (h:Reps K H vs ds):keysOf ds=some ks→vs=ks.map kV:=
  Reps.ind (M:=fun vs ds=>∀ ks:List Key,keysOf ds=some ks→vs=ks.map kV) (fun ks e=>by cases e; rfl) (fun {v d vs ds} h _ ih ks e=>by
    unfold keysOf at e
    cases q:dKey d with
    | none=>rw [q] at e; cases e
    | some k=>
      rw [q,Option.bind_some] at e
      cases q2:keysOf ds with
      | none=>rw [q2] at e; cases e
      | some kr=>
        rw [q2] at e
        cases e
        rw [ih _ q2,List.map_cons]
        cases d with
        | int i=>cases q; cases h; rfl
        | str i=>cases q; cases h; rfl
        | _=>cases q) h ks
theorem keyT_at {K:PySem.W.Frag} {P F H:Hp} {y:V} {dy:D} {ks:List Key} (hp:DHp P F H) (r:Rep K F y dy) (h:keyT dy=some ks):∃ b,y=.ref b∧H b=some (.tup (ks.map kV)):=by
  cases dy with
  | tup ds=>cases r with | tup h1 h2=>exact ⟨_,rfl,by rw [hp.sub _ _ h1,h2.keys h]⟩
  | _=>cases h
section
variable {X:Cx} {a b o i e f:Expr} {pos pos' apos cpos:Pos} {fd fk fx fv:DF→Option D}
noncomputable def dctGet:D→D→Option D
  | .dT kvs,y=>(keyT y).bind fun k=>valD kvs k
  | _,_=>none
theorem pd_dget (hu:X.A.units + 64 < cLine) (ho:PDR X o fd) (hi:PDE X i fk) (hs:NoSl i:=by exact fun _ _=>rfl):PDE X (.Subscript o i pos) (d2 dctGet fd fk):=(pe_dget (by lia) ho hi hs).imp fun σ H Q=>un7 fun P F ρ d hf I k=>by
  unfold d2 at hf
  cases qa:fd ρ with
  | none=>rw [qa] at hf; cases hf
  | some dx=>
  cases qb:fk ρ with
  | none=>rw [qa,Option.bind_some,qb] at hf; cases hf
  | some dy=>
  rw [qa,Option.bind_some,qb,Option.bind_some] at hf
  cases dx with
  | dT kvs=>
    have hf':((keyT dy).bind fun k=>valD kvs k)=some d:=hf
    cases qk:keyT dy with
    | none=>rw [qk] at hf'; cases hf'
    | some ks=>
      rw [qk,Option.bind_some] at hf'
      refine ⟨P,F,ρ,_,qa,I,fun x F1 H1 e1 rx=>⟨P,F1,ρ,_,qb,I.evo e1,fun y F2 H2 e2 ry=>?_⟩⟩
      obtain ⟨p,vs,rfl,h1,h2⟩:=rep_dT ((I.evo e1).evo e2) (rx.same e2.ext)
      obtain ⟨q,rfl,h3⟩:=keyT_at e2.hp ry qk
      rcases h2.val (k:=ks) with ⟨_,z⟩ | ⟨v,d',z1,z2,z3⟩
      · rw [z] at hf'; cases hf'
      · rw [z2] at hf'
        cases hf'
        exact ⟨p,v,rfl,by have:=DGet.t h1 h3; rw [z1] at this; exact this,k v F2 H2 (e1.trans e2) z3⟩
  | _=>cases hf
noncomputable def dctGet2 (fd fk fx:DF→Option D):DF→Option D:=fun ρ=>match fd ρ with
  | some (.dT kvs)=>(fk ρ).bind fun y=>(keyT y).bind fun k=>(fx ρ).map fun x=>(valD kvs k).getD x
  | _=>none
theorem pd_dget2 (hu:X.A.units + 64 < cLine) (ho:PDR X o fd) (hi:PDE X e fk) (hx:PDE X f fx) (m:M2 X o "get" apos e f cpos:=by exact ⟨rfl,rfl,rfl,rfl⟩):PDE X (.Call (.Attribute o "get" apos) [e,f] [] cpos) (dctGet2 fd fk fx):=(pe_dget2 (by lia) ho hi hx m).imp fun σ H Q=>un7 fun P F ρ d hf I k=>by
  unfold dctGet2 at hf
  split at hf
  · rename_i kvs qa
    cases qb:fk ρ with
    | none=>rw [qb] at hf; cases hf
    | some dy=>
      rw [qb,Option.bind_some] at hf
      cases qk:keyT dy with
      | none=>rw [qk] at hf; cases hf
      | some ks=>
        rw [qk,Option.bind_some] at hf
        cases qx:fx ρ with
        | none=>rw [qx] at hf; cases hf
        | some dz=>
          rw [qx] at hf
          cases hf
          refine ⟨P,F,ρ,_,qa,I,fun x F1 H1 e1 rx=>?_⟩
          obtain ⟨p,vs,rfl,h1,h2⟩:=rep_dT (I.evo e1) rx
          refine ⟨p,rfl,.inr ⟨vs,.inl h1⟩,P,F1,ρ,_,qb,I.evo e1,fun y F2 H2 e2 ry=>⟨P,F2,ρ,_,qx,(I.evo e1).evo e2,fun z F3 H3 e3 rz=>?_⟩⟩
          have I3:=((I.evo e1).evo e2).evo e3
          obtain ⟨p',vs',ep,h1',h2'⟩:=rep_dT I3 ((rx.same e2.ext).same e3.ext)
          cases ep
          obtain ⟨q,rfl,h3⟩:=keyT_at e3.hp (ry.same e3.ext) qk
          refine ⟨_,DGet.t h1' h3,?_⟩
          have e123:=(e1.trans e2).trans e3
          rcases h2'.val (k:=ks) with ⟨z1,z2⟩ | ⟨v,d',z1,z2,z3⟩
          · rw [z1]; exact k _ F3 H3 e123 (by show Rep X.K F3 z ((valD kvs ks).getD dz); rw [z2]; exact rz)
          · rw [z1]; exact k _ F3 H3 e123 (by show Rep X.K F3 v ((valD kvs ks).getD dz); rw [z2]; exact z3)
  · cases hf
theorem pdo_dnewT:PDO X (.Dict [] [] pos) (fun _=>some (.dT [])):=pe_dnewT.imp fun σ H Q=>un7 fun P F ρ ob hf I k=>by
  cases hf
  exact fun p hp=>k p F _ (Evo.side I.toDHp hp) ⟨⟨hp,(I.toDHp.free hp).1⟩,_,upd_same,.nil⟩
noncomputable def dPutT (j:Nat) (fk fv:DF→Option D):DF→Option RES:=fun ρ=>match ρ[j]? with
  | some (some (.own (.dT kvs) t))=>(fv ρ).bind fun v=>(fk ρ).bind fun y=>(keyT y).bind fun k=>if kvs.length < 16777216 then some (.nx (ρ.set j (some (.own (.dT (putD kvs k v)) t)))) else none
  | _=>none
theorem pd_dput (j:Nat) (hu:X.A.units + 64 < cLine) (ho:PE X o (tVar j)) (hi:PDE X i fk) (hv:PDE X e fv) (hs:swapsWith e (some (.Subscript o i pos')) pos.line X.env=pure false:=by rfl):PD1 X (.Assign [.Subscript o i pos'] e pos) (dPutT j fk fv):=
  PS.imp (ps_dput (by lia) ho hi hv hs) fun E σ H=>un7 fun P F ρ r hr I k=>by
    unfold dPutT at hr
    split at hr
    · rename_i kvs t q
      cases qv:fv ρ with
      | none=>rw [qv] at hr; cases hr
      | some dv=>
      rw [qv,Option.bind_some] at hr
      cases qb:fk ρ with
      | none=>rw [qb] at hr; cases hr
      | some dy=>
      rw [qb,Option.bind_some] at hr
      cases qk:keyT dy with
      | none=>rw [qk] at hr; cases hr
      | some ks=>
      rw [qk,Option.bind_some] at hr
      split at hr
      · rename_i hl
        cases hr
        obtain ⟨v,h1,p,rfl,⟨⟨a1,a2,_⟩,u,a3,a4⟩,_⟩:=I.at q
        cases u with
        | dT vs=>
          have a4:RepsT X.K F vs kvs:=a4
          refine ⟨P,F,ρ,_,qv,I,fun v F1 H1 e1 rv=>⟨_,h1,P,F1,ρ,_,qb,I.evo e1,fun y F2 H2 e2 ry=>?_⟩⟩
          have e12:=e1.trans e2
          obtain ⟨k1,k2⟩:=e12.keep p _ a3 a1
          obtain ⟨b',rfl,h3⟩:=keyT_at e12.hp ry qk
          refine ⟨p,_,rfl,DPut.t k1 h3 (by rw [sizeLine_eq,a4.length]; exact hl),k σ F2 _ e12.ext ?_⟩
          exact (I.evo e12).mut (o':=.dT _) (u:=.dT _) q rfl rfl h1 ((RepsT.same e12.ext a4).put (rv.same e2.ext))
        | _=>exact a4.elim
      · cases hr
    · cases hr
end
end L2
namespace L2
open PySem PySem.Spec PyProof.Rows PySem.W
section
variable {prog:Program} {w:World} {A:Around} {E:Value→Shared→Prop} {s:Shared}
noncomputable def SortsTo (prog:Program) (w:World) (A:Around) (Q:Value→Shared→Prop) (vs:List Value) (s1:Shared):Prop:=
  vs.length < 64∧∃ (κ:SortKind) (lt:Nat→Nat→Bool),Ord lt ∧
    (2≤vs.length→∀ h',(∀ b u,s1.heap.get? b=some u→h'.get? b=some u)→∀ (Q:SortKind→Shared→Prop) (E:Value→Shared→Prop),Q κ { s1 with heap:=h' }→wpAny (model prog w) A.in1.in1 (keyKind' vs.toArray) Q E { s1 with heap:=h' }) ∧
    (∀ h',(∀ b u,s1.heap.get? b=some u→h'.get? b=some u)→∀ i j C,i < vs.length→j < vs.length→C (lt i j) { s1 with heap:=h' }→kas_ask prog w A.in1.in1 κ vs i j C { s1 with heap:=h' }) ∧
    ∀ p,PermN vs.length p→Ris lt p vs.length→∀ (a:Addr) (h':Heap) (e:Nat),(∀ b u,s1.heap.get? b=some u→h'.get? b=some u)→s1.heap.objs.size≤a→h'.get? a=some (seqObj "list" (outOf vs p) e)→Q (.ref a) { s1 with heap:=h' }
theorem sorted_core {v:Value} {Q:Value→Shared→Prop} (hcol:wpAny (model prog w) A.in1 (collect v) (SortsTo prog w A Q) E s) :
    wpAny (model prog w) A (call (.builtin "sorted") [v]) Q E s:=by
  refine Calls.call_function_entry kind_sorted plain_sorted entry_sorted (args_sorted1 _) ?_
  unfold Builtin.«sorted»
  refine wpAny_bind (m:=checkCount "sorted" 1 1 _) (wpAny_pure ?_)
  refine wpAny_bind (wpAny_mono hcol (fun vs s1 hh_=>?_) fun _ _ e=>e)
  obtain ⟨h64,κ,lt,o,hk,hc,h⟩:=hh_
  refine wpAny_bind (wpAny_newList ?_ (by rw [sizeLine_eq]; lia))
  have hoL:(s1.heap.push (seqObj "list" vs.toArray 0)).get? s1.heap.objs.size=some (seqObj "list" vs.toArray 0):=Heap.get?_push_size _ rfl
  have keep:∀ b u,s1.heap.get? b=some u→(s1.heap.push (seqObj "list" vs.toArray 0)).get? b=some u:=fun b u q=>Heap.get?_push_of_some _ q
  show wpAny _ _ _ _ _ { s1 with heap:=s1.heap.push (seqObj "list" vs.toArray 0) }
  have lift:∀ h':Heap,(∀ b u,b≠s1.heap.objs.size→(s1.heap.push (seqObj "list" vs.toArray 0)).get? b=some u→h'.get? b=some u)→∀ b u,s1.heap.get? b=some u→h'.get? b=some u:=fun h' k b u e=>
    k b u (Nat.ne_of_lt (Heap.lt_size e)) (keep b u e)
  refine wpAny_bind (wpAny_holding (wpAny_call_entry slot_list_sort ⟨_,hoL,rfl⟩ entry_list_sort ?body (args_list_sort _)))
  case body=>
    refine list_sort_gen hoL h64 κ lt o (fun h2 h' k Q q=>hk h2 h' (lift h' k) Q _ q) (fun h' k=>hc h' (lift h' k)) fun p hp hr=>⟨_,rfl,?_⟩
    obtain ⟨e,he⟩:=sortedHeap_at (out:=outOf vs p) hoL
    refine wpAny_pure ⟨_,rfl,h p hp hr s1.heap.objs.size _ e (fun b u q=>?_) (Nat.le_refl _) he⟩
    have hlt:b < s1.heap.objs.size:=Heap.lt_size q
    show (sortedHeap (s1.heap.push (seqObj "list" vs.toArray 0)) s1.heap.objs.size vs (outOf vs p)).get? b=some u
    rw [sortedHeap_old (Nat.ne_of_lt hlt) (by rw [size_push']; exact Nat.lt_succ_of_lt hlt)]
    exact keep b u q
theorem collect_tuple {l:Addr} {vs:List Value} {Q:List Value→Shared→Prop} (hl:IsTup s.heap l vs.toArray)
    (h:Q vs { s with heap:=(s.heap.push (seqObj "list" #[] 0)).update s.heap.objs.size (Obj.mapSeq (·++vs.toArray)) }) (hsz:vs.length≤sizeLine) :
    wpAny (model prog w) A (collect (.ref l)) Q E s:=by
  obtain ⟨o,ho,hc,n,hd⟩:=id hl
  unfold collect
  refine wpAny_bind (wpAny_runValue (codeAny_builtin entry_proto_collect' ?_))
  show wpAny _ _ (do again (.builtin "list.__iadd__" ⟨[← newList [],.ref l],[]⟩)) _ _ s
  refine wpAny_bind (wpAny_newList (wpAny_pure ⟨Code.quiet_builtin _ (by decide +kernel),codeAny_builtin entry_list_iadd' ?_⟩))
  show wpAny _ _ (Builtin.List.listExtendWith (.ref s.heap.objs.size) (.ref l) (.ref s.heap.objs.size)) _ _ { s with heap:=s.heap.push (seqObj "list" #[] 0) }
  unfold Builtin.List.listExtendWith
  have ho':(s.heap.push (seqObj "list" #[] 0)).get? l=some o:=Heap.get?_push_of_some _ ho
  refine wpAny_bind (wpAny_typeOf (T := "tuple") ⟨o,ho',hc⟩ ?_)
  rw [if_pos (by have ht:(Value.type "tuple" == Value.type "tuple")=true:=by rfl
                 rw [ht]; simp)]
  refine wpAny_bind (listItems_at ho' hd ?_)
  refine wpAny_bind (listItems_at (xs:=#[]) (n:=0) (Heap.get?_push_size _ rfl) rfl ?_)
  rw [if_neg (by simp)]
  refine wpAny_bind (listUpdate_at (xs:=#[]) (n:=0) (Heap.get?_push_size _ rfl) rfl ?_ (Nat.zero_le _) (by show (#[]++vs.toArray).size≤sizeLine + 1; simp only [Array.size_append,List.size_toArray,List.length_nil]; lia))
  refine wpAny_pure ?_
  show wpAny (model prog w) A (do
      let o ← load s.heap.objs.size
      match o.data with
      | .seq xs _=>pure xs.toList
      | _=>unsupported "internal:collect") Q E { s with heap:=(s.heap.push (seqObj "list" #[] 0)).update s.heap.objs.size (Obj.mapSeq (·++vs.toArray)) }
  refine wpAny_bind (wpAny_load (get?_update_seq (Heap.get?_push_size _ rfl) _) ?_)
  show wpAny _ _ (pure ((#[]:Array Value)++vs.toArray).toList) Q E _
  rw [show ((#[]:Array Value)++vs.toArray).toList=vs by simp]
  exact wpAny_pure h
theorem collected_keep {h:Heap} {vs:List Value} {b:Addr} {u:Obj} (q:h.get? b=some u):((h.push (seqObj "list" #[] 0)).update h.objs.size (Obj.mapSeq (·++vs.toArray))).get? b=some u:=by
  have hlt:b < h.objs.size:=Heap.lt_size q
  rw [Heap.get?_update_ne _ _ _ _ (Nat.ne_of_lt hlt),Heap.get?_push_ne _ _ _ (Nat.ne_of_lt hlt)]
  exact q
end
noncomputable def sk:D→Bool
  | .int _=>true
  | .str _=>true
  | .tup (_::_)=>true
  | _=>false
noncomputable def fk:D→Bool
  | .int _=>true
  | .str _=>true
  | .tup _=>true
  | _=>false
noncomputable def firstOk:D→Bool
  | .tup (d::_)=>fk d
  | _=>true
noncomputable def sortOk (ds:List D):Bool:=decide (ds.length < 64)&&ds.all (okN 28)&&(ds.all fun x=>ds.all fun y=>cmpOk x y)&&ds.all sk&&ds.all firstOk
theorem sortOk_iff {ds:List D} (h:sortOk ds=true):ds.length < 64∧Cmps 28 ds∧(∀ d∈ds,sk d=true)∧∀ d∈ds,firstOk d=true:=by
  unfold sortOk at h
  simp only [Bool.and_eq_true,decide_eq_true_eq] at h
  obtain ⟨⟨⟨⟨h1,h2⟩,h3⟩,h4⟩,h5⟩:=h
  exact ⟨h1,⟨fun d hd=>List.all_eq_true.mp h2 d hd,fun x hx y hy=>List.all_eq_true.mp (List.all_eq_true.mp h3 x hx) y hy⟩,fun d hd=>List.all_eq_true.mp h4 d hd,fun d hd=>List.all_eq_true.mp h5 d hd⟩
noncomputable def dAt (ds:List D) (i:Nat):D:=ds.getD i (ds.headD (.int 0))
theorem dAt_mem {ds:List D} (h:ds≠[]) (i:Nat):dAt ds i∈ds:=by
  unfold dAt
  cases ds with
  | nil=>exact absurd rfl h
  | cons d r=>
    rw [List.getD_eq_getElem?_getD]
    cases q:(d::r)[i]? with
    | none=>exact List.mem_cons_self
    | some x=>exact List.mem_of_getElem? q
theorem dAt_lt {ds:List D} {i:Nat} (h:i < ds.length):ds[i]?=some (dAt ds i):=by
  unfold dAt
  rw [List.getD_eq_getElem?_getD,List.getElem?_eq_getElem h]
  rfl
theorem ord_of {n:Nat} {ds:List D} (hc:Cmps n ds):Ord fun i j=>ltD (dAt ds i) (dAt ds j):=by
  by_cases hn:ds=[]
  · subst hn
    have e:∀ i,dAt [] i=.int 0:=fun i=>by simp [dAt]
    refine ⟨fun i j h=>?_,fun i j k h1 h2=>?_⟩
    · rw [e,e] at h; simp [ltD] at h
    · rw [e,e]; simp [ltD]
  · have m:=fun i=>dAt_mem hn i
    refine ⟨fun i j h=>?_,fun i j k h1 h2=>?_⟩
    · exact (fc2_all n _ _ (hc.1 _ (m i)) (hc.1 _ (m j)) (hc.2 _ (m i) _ (m j))).as h
    · exact nlt_trans (hc.1 _ (m i)) (hc.1 _ (m j)) (hc.1 _ (m k)) (hc.2 _ (m i) _ (m j)) (hc.2 _ (m j) _ (m k)) (hc.2 _ (m i) _ (m k)) (hc.2 _ (m j) _ (m i)) (hc.2 _ (m k) _ (m j)) (hc.2 _ (m k) _ (m i)) h1 h2
theorem out_sorted {n:Nat} {ds:List D} (hc:Cmps n ds) {p:Array Nat} (hp:PermN ds.length p) (hr:Ris (fun i j=>ltD (dAt ds i) (dAt ds j)) p ds.length):p.toList.map (dAt ds)=sortD ds:=by
  refine sortD_uniq (n:=n) ?_ hc ?_
  · have h1:(p.toList.map (dAt ds)).Perm ((List.range ds.length).map (dAt ds)):=hp.perm.map _
    have h2:(List.range ds.length).map (dAt ds)=ds:=by
      apply List.ext_getElem?
      intro i
      rw [List.getElem?_map]
      by_cases h:i < ds.length
      · rw [List.getElem?_range h,Option.map_some,dAt_lt h]
      · rw [List.getElem?_eq_none (by rw [List.length_range]; lia),List.getElem?_eq_none (by lia)]; rfl
    rw [h2] at h1
    exact h1
  · rw [List.pairwise_map,List.pairwise_iff_getElem]
    intro i j hi hj hij
    have hs:=hp.size
    rw [Array.length_toList] at hi hj
    have:=hr i j (Nat.le_of_lt hij) (by lia)
    have e:∀ k (h:k < p.size),p.getD k 0=p[k]:=fun k h=>by simp [Array.getD,h]
    rw [e i hi,e j hj] at this
    simpa using this
theorem Reps.perm {K:PySem.W.Frag} {H:Hp} {vs:List V} {ds:List D} (r:Reps K H vs ds) (hn:ds≠[]):∀ (l:List Nat),(∀ i∈l,i < ds.length)→Reps K H (l.map fun i=>vs.getD i .non) (l.map (dAt ds))
  | [],_=>.nil
  | i::l,h=>by
    obtain ⟨v,h1,h2⟩:=r.get (dAt_lt (h i List.mem_cons_self))
    have e:vs.getD i .non=v:=by rw [List.getD_eq_getElem?_getD,h1]; rfl
    rw [List.map_cons,List.map_cons]
    show Reps K H (vs.getD i .non::_) _
    rw [e]
    exact .cons h2 (Reps.perm r hn l fun j hj=>h j (List.mem_cons_of_mem _ hj))
theorem Vals.perm {vs:List V} {us:List Value} (r:Vals vs us):∀ (l:List Nat),(∀ i∈l,i < vs.length)→Vals (l.map fun i=>vs.getD i .non) (l.map fun i=>us.getD i Value.none)
  | [],_=>.nil
  | i::l,h=>by
    have hi:=h i List.mem_cons_self
    obtain ⟨u,h1,h2⟩:=r.get (List.getElem?_eq_getElem hi)
    have e1:vs.getD i .non=vs[i]:=by rw [List.getD_eq_getElem?_getD,List.getElem?_eq_getElem hi]; rfl
    have e2:us.getD i Value.none=u:=by rw [List.getD_eq_getElem?_getD,h1]; rfl
    rw [List.map_cons,List.map_cons]
    show Vals (vs.getD i .non::_) (us.getD i Value.none::_)
    rw [e1,e2]
    exact .cons h2 (Vals.perm r l fun j hj=>h j (List.mem_cons_of_mem _ hj))
noncomputable def tyD:D→Value
  | .int _=>.type "int"
  | .str _=>.type "str"
  | _=>.type "tuple"
section
variable {X:Cx} {pins:List (Addr×Obj)} {σ:St} {H:Hp} {s:Shared}
theorem Rep.ty (I:Inv X pins σ H s) {v:V} {d:D} {u:Value} (h:Rep X.K H v d) (hk:fk d=true) (r:RelV v u) (M:Model):Looks M s.heap (typeOf u) (tyD d):=by
  cases d with
  | int i=>cases h; obtain ⟨t,rfl⟩:=(show ∃ t,u=Value.int _ t from r); exact Looks.of_pure rfl
  | str i=>cases h; obtain ⟨t,rfl⟩:=(show ∃ t,u=Value.str _ t from r); exact Looks.of_pure rfl
  | tup ds=>
    cases h with
    | tup h1 h2=>
      cases (show u=Value.ref _ from r)
      obtain ⟨its,rv,⟨o,ho,hc,n,hd⟩,_⟩:=I.tuple (SqT.of h1)
      have:=(Looks.ld (M:=M) (part:=none) ho).andThen (f:=fun o=>pure o.cls) .now
      rw [hc] at this
      exact this
  | _=>cases hk
theorem cmp_ty {x y:D} (h:cmpOk x y=true) (hx:fk x=true):tyD x=tyD y:=by
  rcases cmpOk_inv h with ⟨i,j,rfl,rfl⟩ | ⟨i,j,rfl,rfl⟩ | ⟨i,j,rfl,rfl⟩ | ⟨i,j,rfl,rfl,_⟩
  · rfl
  · cases hx
  · rfl
  · rfl
noncomputable def kindD:List D→SortKind
  | .tup (d::_)::_=>tuples' (tyD d != .type "tuple")
  | _=>oneType'
theorem tup_firsts (I:Inv X pins σ H s):∀ {vs:List V} {ds:List D} {us:List Value},Reps X.K H vs ds→Vals vs us→(∀ d∈ds,∃ x r,d=.tup (x::r)∧fk x=true)→∀ T:Value,(∀ x r,.tup (x::r)∈ds→tyD x=T)→
    ∃ fs:List Value,KatTups s.heap us fs∧fs.length=us.length∧∀ M,∀ v∈fs,Looks M s.heap (typeOf v) T:=by
  intro vs ds us h
  exact Reps.ind (M:=fun vs ds=>∀ us:List Value,Vals vs us→(∀ d∈ds,∃ x r,d=.tup (x::r)∧fk x=true)→∀ T:Value,(∀ x r,.tup (x::r)∈ds→tyD x=T) →     ∃ fs:List Value,KatTups s.heap us fs∧fs.length=us.length∧∀ M,∀ v∈fs,Looks M s.heap (typeOf v) T) (fun us r _ _ _=>by cases r; exact ⟨[],.nil,rfl,fun _ _ h=>by cases h⟩) (fun h _ ih us r0 hd T hT=>by
    cases r0 with
    | cons r t=>
    obtain ⟨x,rr,rfl,hx⟩:=hd _ List.mem_cons_self
    obtain ⟨fs,f1,f2,f3⟩:=ih _ t (fun d m=>hd d (List.mem_cons_of_mem _ m)) T fun x r m=>hT x r (List.mem_cons_of_mem _ m)
    cases h with
    | tup h1 h2=>
      cases (show _=Value.ref _ from r)
      obtain ⟨its,rv,⟨o,ho,hc,n,hdt⟩,_⟩:=I.tuple (SqT.of h1)
      cases h2 with
      | cons g1 g2=>
        cases rv with
        | cons k1 k2=>
          refine ⟨_::fs,KatTups.cons ho hc hdt (by simp; rfl) f1,by rw [List.length_cons,List.length_cons,f2],fun M v hv=>?_⟩
          rcases List.mem_cons.mp hv with rfl | hv
          · rw [← hT x rr List.mem_cons_self]
            exact g1.ty I hx k1 M
          · exact f3 M v hv) h us
theorem scal_ty {d:D} (h:sk d=true) (ht:isTup d=false):fk d=true:=by cases d <;> first | rfl | cases h | cases ht
theorem kind_ok (I:Inv X pins σ H s) {vs:List V} {ds:List D} {us:List Value} (r:Reps X.K H vs ds) (rv:Vals vs us) (ok:sortOk ds=true) (h2:2≤us.length) {A:Around} {M:Model} {Q:SortKind→Shared→Prop} {E:Value→Shared→Prop} (hQ:Q (kindD ds) s) :
    wpAny M A (keyKind' us.toArray) Q E s:=by
  obtain ⟨hl,hc,hs,hf⟩:=sortOk_iff ok
  have l1:=r.length
  have l2:=rv.length
  cases ds with
  | nil=>rw [List.length_nil] at l1; lia
  | cons d dr=>
    have md:d∈d::dr:=List.mem_cons_self
    cases ht:isTup d with
    | true=>
      cases d with
      | tup xs=>
        cases xs with
        | nil=>have:=hs _ md; cases this
        | cons x rr=>
          have hx:fk x=true:=hf _ md
          have all:∀ d'∈(D.tup (x::rr)::dr),∃ y r',d'=.tup (y::r')∧fk y=true∧tyD y=tyD x:=fun d' m=>by
            have hcm:=hc.2 _ md _ m
            rcases cmpOk_inv hcm with ⟨i,j,e,_⟩ | ⟨i,j,e,_⟩ | ⟨i,j,e,_⟩ | ⟨i,j,e,e2,hcs⟩
            · cases e
            · cases e
            · cases e
            · cases e
              subst e2
              cases j with
              | nil=>have:=hs _ m; cases this
              | cons y r'=>
                rw [cmpOks,Bool.and_eq_true] at hcs
                exact ⟨y,r',rfl,hf _ m,(cmp_ty hcs.1 hx).symm⟩
          obtain ⟨fs,f1,f2,f3⟩:=tup_firsts I r rv (fun d' m=>by obtain ⟨y,r',e,h,_⟩:=all d' m; exact ⟨y,r',e,h⟩) (tyD x) fun y r' m=>by
            obtain ⟨y',r'',e,_,h⟩:=all _ m
            cases e
            exact h
          exact kat_kind f1 (by lia) (f3 M) (by cases x <;> rfl) hQ
      | _=>cases ht
    | false=>
      have hd:fk d=true:=scal_ty (hs d md) ht
      have e:kindD (d::dr)=oneType':=by cases d <;> first | rfl | cases ht
      rw [e] at hQ
      have hT:∀ u∈us,Looks M s.heap (typeOf u) (tyD d):=fun u hu=>by
        obtain ⟨i,hi,eu⟩:=List.getElem_of_mem hu
        have hiv:i < vs.length:=by lia
        obtain ⟨u',e1,e2⟩:=rv.get (List.getElem?_eq_getElem hiv)
        rw [List.getElem?_eq_getElem hi,eu] at e1
        cases e1
        obtain ⟨d',e3,e4⟩:=r.getV (List.getElem?_eq_getElem hiv)
        have m:=List.mem_of_getElem? e3
        have hcm:=hc.2 _ md _ m
        rw [cmp_ty hcm hd]
        refine e4.ty I ?_ e2 M
        refine scal_ty (hs d' m) ?_
        rcases cmpOk_inv hcm with ⟨i,j,rfl,rfl⟩ | ⟨i,j,rfl,rfl⟩ | ⟨i,j,rfl,rfl⟩ | ⟨i,j,rfl,rfl,_⟩
        · rfl
        · rfl
        · rfl
        · cases ht
      refine kas_kind h2 hT ?_ ?_ hQ
      · cases d <;> first | rfl | (simp [fk] at hd; done) | (simp [isTup] at ht; done)
      · cases d <;> rfl
theorem lex_kat {A:Around} {prog:Program} {w:World} {b:Bool} {Q:Bool→Shared→Prop} {n1 n2:Nat}:∀ {us ws:List Value} {ds es:List D} (i:Nat),LexOk A s us ws ds es→(b=true→i=0→∀ u w' d e ur wr dr er,us=u::ur→ws=w'::wr→ds=d::dr→es=e::er→∀ (Q:Bool→Shared→Prop) (E:Value→Shared→Prop),Q (ltD d e) s→wpAny (model prog w) A (oneLt' true u w') Q E s)→
    us.length + n2=ws.length + n1→Q (lexD ds es) s→KatLex prog w A b (decide (n1 < n2)) Q (us.zip ws) i s:=by
  intro us ws ds es i h
  induction h generalizing i with
  | @nl ws es hl=>
    intro _ hn hQ
    rw [List.zip_nil_left]
    refine kat_nil ?_
    rw [List.length_nil] at hn
    cases es with
    | nil=>
      rw [List.length_nil] at hl
      rw [show lexD [] []=false by simp [lexD]] at hQ
      rw [decide_eq_false (by lia)]; exact hQ
    | cons c r=>
      rw [List.length_cons] at hl
      rw [show lexD [] (c::r)=true by simp [lexD]] at hQ
      rw [decide_eq_true (by lia)]; exact hQ
  | @nr vs ds hl=>
    intro _ hn hQ
    rw [List.zip_nil_right]
    refine kat_nil ?_
    rw [List.length_nil] at hn
    cases ds with
    | nil=>
      rw [List.length_nil] at hl
      rw [show lexD [] []=false by simp [lexD]] at hQ
      rw [decide_eq_false (by lia)]; exact hQ
    | cons c r=>
      rw [List.length_cons] at hl
      rw [show lexD (c::r) []=false by simp [lexD]] at hQ
      rw [decide_eq_false (by lia)]; exact hQ
  | @cons v w' d e _ _ _ _ he hlt hx ih=>
    intro h1 hn hQ
    rw [List.zip_cons_cons]
    rw [List.length_cons,List.length_cons] at hn
    refine kat_cons (he prog w _ _ ?_)
    cases q:eqd d e with
    | true=>
      rw [lexD,if_pos q] at hQ
      exact kat_yes (ih (i + 1) (fun _ z=>by lia) (by lia) hQ)
    | false=>
      rw [lexD,if_neg (by rw [q]; exact Bool.false_ne_true)] at hQ
      refine kat_no ?_
      cases hb:(b&&i == 0) with
      | true=>
        rw [Bool.and_eq_true] at hb
        exact h1 hb.1 (by simpa using hb.2) _ _ _ _ _ _ _ _ rfl rfl rfl rfl _ _ hQ
      | false=>exact kat_one _ _ (hlt q prog w _ _ hQ)
theorem one_lt {A:Around} {prog:Program} {w:World} {x y:V} {d e:D} {u v:Value} (h1:Rep X.K H x d) (h2:Rep X.K H y e) (c:cmpOk d e=true) (hd:fk d=true) (ht:isTup d=false) (r1:RelV x u) (r2:RelV y v) {Q:Bool→Shared→Prop} {E:Value→Shared→Prop} (hQ:Q (ltD d e) s) :
    wpAny (model prog w) A (oneLt' true u v) Q E s:=by
  rcases cmpOk_inv c with ⟨i,j,rfl,rfl⟩ | ⟨i,j,rfl,rfl⟩ | ⟨i,j,rfl,rfl⟩ | ⟨i,j,rfl,rfl,_⟩
  · cases h1; cases h2
    obtain ⟨t,rfl⟩:=(show ∃ t,u=Value.int _ t from r1)
    obtain ⟨t',rfl⟩:=(show ∃ t,v=Value.int _ t from r2)
    exact oneLt_int (by rw [ltD] at hQ; exact hQ)
  · cases hd
  · cases h1; cases h2
    obtain ⟨t,rfl⟩:=(show ∃ t,u=Value.str _ t from r1)
    obtain ⟨t',rfl⟩:=(show ∃ t,v=Value.str _ t from r2)
    exact oneLt_str (by rw [ltD] at hQ; exact hQ)
  · cases ht
theorem ask_ok (I:Inv X pins σ H s) {vs:List V} {ds:List D} {us:List Value} (r:Reps X.K H vs ds) (rv:Vals vs us) (ok:sortOk ds=true) {A:Around} (hu:A.units + 60 < cLine) {prog:Program} {w:World} {i j:Nat} {C:Bool→Shared→Prop} (hi:i < us.length) (hj:j < us.length) (hQ:C (ltD (dAt ds i) (dAt ds j)) s) :
    kas_ask prog w A (kindD ds) us i j C s:=by
  obtain ⟨hl,hc,hs,hf⟩:=sortOk_iff ok
  have l1:=r.length
  have l2:=rv.length
  obtain ⟨v,e1,r1⟩:=r.get (dAt_lt (show i < ds.length by lia))
  obtain ⟨v',e2,r2⟩:=r.get (dAt_lt (show j < ds.length by lia))
  obtain ⟨u,e3,k1⟩:=rv.get e1
  obtain ⟨u',e4,k2⟩:=rv.get e2
  have hn:ds≠[]:=fun z=>by rw [z,List.length_nil] at l1; lia
  have mi:=dAt_mem hn i
  have mj:=dAt_mem hn j
  have hcm:=hc.2 _ mi _ mj
  unfold kas_ask
  have g1:us.getD i Value.none=u:=by rw [List.getD_eq_getElem?_getD,e3]; rfl
  have g2:us.getD j Value.none=u':=by rw [List.getD_eq_getElem?_getD,e4]; rfl
  rw [g1,g2]
  generalize hx:dAt ds i=x at *
  generalize hy:dAt ds j=y at *
  cases ht:isTup x with
  | false=>
    have e:kindD ds=oneType':=by
      cases ds with
      | nil=>exact absurd rfl hn
      | cons d dr=>
        have:=hc.2 _ mi d List.mem_cons_self
        rcases cmpOk_inv this with ⟨i,j,rfl,rfl⟩ | ⟨i,j,rfl,rfl⟩ | ⟨i,j,rfl,rfl⟩ | ⟨i,j,rfl,rfl,_⟩
        · rfl
        · rfl
        · rfl
        · cases ht
    rw [e,keyLt'_oneType]
    exact one_lt r1 r2 hcm (scal_ty (hs _ mi) ht) ht k1 k2 hQ
  | true=>
    cases x with
    | tup xs=>
      cases xs with
      | nil=>have:=hs _ mi; cases this
      | cons x0 xr=>
        rcases cmpOk_inv hcm with ⟨_,_,e,_⟩ | ⟨_,_,e,_⟩ | ⟨_,_,e,_⟩ | ⟨xs',ys,e,rfl,hcs⟩
        · cases e
        · cases e
        · cases e
        · cases e
          have ek:kindD ds=tuples' (tyD x0 != .type "tuple"):=by
            cases ds with
            | nil=>exact absurd rfl hn
            | cons d dr=>
              have:=hc.2 _ mi d List.mem_cons_self
              rcases cmpOk_inv this with ⟨_,_,e,_⟩ | ⟨_,_,e,_⟩ | ⟨_,_,e,_⟩ | ⟨_,zs,e,rfl,hz⟩
              · cases e
              · cases e
              · cases e
              · cases e
                cases zs with
                | nil=>have:=hs (.tup []) List.mem_cons_self; cases this
                | cons z0 zr=>
                  rw [cmpOks,Bool.and_eq_true] at hz
                  show tuples' (tyD z0 != _)=_
                  rw [cmp_ty hz.1 (hf _ mi)]
          rw [ek]
          cases r1 with
          | tup a1 a2=>
            cases r2 with
            | tup b1 b2=>
              cases (show u=Value.ref _ from k1)
              cases (show u'=Value.ref _ from k2)
              obtain ⟨its1,rv1,⟨o1,ho1,hc1,n1,hd1⟩,_⟩:=I.tuple (SqT.of a1)
              obtain ⟨its2,rv2,⟨o2,ho2,hc2,n2,hd2⟩,_⟩:=I.tuple (SqT.of b1)
              have oi:okN 28 (.tup (x0::xr))=true:=hc.1 _ mi
              have oj:okN 28 (.tup ys)=true:=hc.1 _ mj
              have hlex:=Reps.lex I 27 A (by lia) (Rep.lt I 27 A (by lia)) a2 b2 (okN_all oi) (okN_all oj) hcs rv1 rv2
              refine kat_lt ho1 hd1 ho2 hd2 ?_
              simp only [List.size_toArray]
              refine lex_kat 0 hlex (fun hb _ u0 w0 d0 e0 ur wr dr er q1 q2 q3 q4 Q E hq=>?_) (by lia) (by rw [ltD] at hQ; exact hQ)
              subst q1 q2 q4
              cases q3
              cases a2 with
              | cons a3 a4=>
                cases b2 with
                | cons b3 b4=>
                  cases rv1 with
                  | cons c1 c2=>
                    cases rv2 with
                    | cons c3 c4=>
                      rw [cmpOks,Bool.and_eq_true] at hcs
                      refine one_lt a3 b3 hcs.1 (hf _ mi) ?_ c1 c3 hq
                      cases x0 <;> first | rfl | (simp [tyD] at hb)
    | _=>cases ht
theorem sorts_to (I:Inv X pins σ H s) {vs:List V} {ds:List D} {us:List Value} (r:Reps X.K H vs ds) (rv:Vals vs us) (ok:sortOk ds=true) (hu:X.A.units + 64 < cLine) {Q:Value→Shared→Prop}
    (hQ:∀ (a:Addr) (p:List Nat) (s':Shared),H a=none→(∀ i∈p,i < ds.length)→p.length=ds.length→p.map (dAt ds)=sortD ds→Inv X pins σ (upd H a (.lst (p.map fun i=>vs.getD i .non))) s'→Q (.ref a) s'):SortsTo X.prog X.w X.A Q us s:=by
  obtain ⟨hl,hc,_,_⟩:=sortOk_iff ok
  have l1:=r.length
  have l2:=rv.length
  refine ⟨by lia,kindD ds,_,ord_of hc,fun h2 h' k Q E q=>kind_ok (I.kept (t':=s.toks) k) r rv ok h2 q,fun h' k i j C hi hj hq=>?_,fun p hp hr a h' e k hsz hget=>?_⟩
  · have hu':X.A.in1.in1.units + 60 < cLine:=by show X.A.units + 1 + 1 + 60 < cLine; lia
    exact ask_ok (I.kept (t':=s.toks) k) r rv ok hu' hi hj hq
  · have hp':PermN ds.length p:=by rw [← l1,l2]; exact hp
    have hr':Ris (fun i j=>ltD (dAt ds i) (dAt ds j)) p ds.length:=by rw [← l1,l2]; exact hr
    have eo:=out_sorted hc hp' hr'
    have bd:∀ i∈p.toList,i < ds.length:=fun i hi=>List.mem_range.mp (hp'.perm.mem_iff.mp hi)
    have hna:H a=none:=I.hok.fresh hsz
    have lenp:p.toList.length=ds.length:=by rw [Array.length_toList]; exact hp'.size
    refine hQ a p.toList _ hna bd lenp eo (I.laid (t':=s.toks) k hsz ⟨?_,p.toList.map fun i=>us.getD i Value.none,e,Vals.perm rv p.toList fun i hi=>by rw [l1]; exact bd i hi,?_⟩)
    · rw [List.length_map,lenp,sizeLine_eq]; lia
    · exact hget
end
section
variable {X:Cx} {e:Expr} {p pos:Pos} {fa:DF→Option D}
theorem call_sorted (hu:X.A.units + 64 < cLine):CallR X (.builtin "sorted") (fun xs H Q=>∃ a vs ds,xs=[.ref a]∧(SqL X.K H a vs∨SqT X.K H a vs)∧Reps X.K H vs ds∧sortOk ds=true∧∀ l (p:List Nat),H l=none→(∀ i∈p,i < ds.length)→p.length=ds.length→p.map (dAt ds)=sortD ds→Q (.ref l) (upd H l (.lst (p.map fun i=>vs.getD i .non)))):=by
  intro pins s σ H xs us Q I r h
  obtain ⟨a,vs,ds,rfl,hq,hr,ok,q⟩:=h
  obtain ⟨u,rfl,ru⟩:=vals1 r
  cases ru
  refine sorted_core ?_
  have fin:∀ its:List Value,Vals vs its→SortsTo X.prog X.w X.A (EP X pins σ Q) its { s with heap:=(s.heap.push (seqObj "list" #[] 0)).update s.heap.objs.size (Obj.mapSeq (·++its.toArray)) }:=fun its rv=>
    sorts_to (I.kept (t':=s.toks) fun b u e=>collected_keep e) hr rv ok hu fun l p s' hl b1 b2 b3 I'=>⟨.ref l,_,I',rfl,q l p hl b1 b2 b3⟩
  rcases hq with hq | hq
  · obtain ⟨its,rv,pl,hz⟩:=I.list hq
    exact collect_list pl.isList (fin its rv) (by rw [← rv.length]; exact hz)
  · obtain ⟨its,rv,pl,hz⟩:=I.tuple hq
    exact collect_tuple pl (fin its rv) (by rw [← rv.length]; exact hz)
noncomputable def sortL (fa:DF→Option D):DF→Option (List D):=fun ρ=>(fa ρ).bind fun d=>(itemsD d).bind fun ds=>if sortOk ds=true then some (sortD ds) else none
theorem pdo_sorted (hu:X.A.units + 64 < cLine) (hg:Gl X "sorted") (hm:X.mg "sorted"=none) (ha:PDR X e fa) (hs:starEach [e] X.env=[(false,eval e X.env)]:=by rfl) (hpl:(backTo pos (starEach [] X.env)).any (·.1)=false:=by rfl) :
    PDO X (.Call (.Name "sorted" p) [e] [] pos) (asL (sortL fa)):=
  (pe_callB (call_sorted hu) hg hm boot_sorted (pa_cons ha pa_nil hs) (by decide) (by decide) hs hpl).imp fun σ H Q=>un7 fun P F ρ ob hf I k=>by
    unfold asL sortL at hf
    cases ha:fa ρ with
    | none=>rw [ha] at hf; cases hf
    | some dx=>
    rw [ha,Option.bind_some] at hf
    cases hi:itemsD dx with
    | none=>rw [hi] at hf; cases hf
    | some ds=>
    rw [hi,Option.bind_some] at hf
    split at hf
    · rename_i ok
      cases hf
      refine ⟨P,F,ρ,dx,ha,I,fun x F1 H1 e1 rx=>?_⟩
      have I1:=I.evo e1
      have fin:∀ (vs:List V),Reps X.K F1 vs ds→∀ l (p:List Nat),H1 l=none→(∀ i∈p,i < ds.length)→p.length=ds.length→p.map (dAt ds)=sortD ds→Q (.ref l) (upd H1 l (.lst (p.map fun i=>vs.getD i .non))):=fun vs r l p hl b1 b2 b3=>by
        refine k l F1 _ (e1.trans (Evo.side e1.hp hl)) ⟨⟨e1.back I.toDHp hl,(e1.hp.free hl).1⟩,_,upd_same,?_⟩
        show Reps X.K F1 _ (sortD ds)
        by_cases hn:ds=[]
        · subst hn
          have:p=[]:=List.length_eq_zero_iff.mp b2
          rw [this]
          exact .nil
        · rw [← b3]
          exact r.perm hn p b1
      cases dx with
      | lst ds'=>
        cases hi
        obtain ⟨q,vs,rfl,h1,h2⟩:=rep_lst I1 rx
        exact ⟨q,vs,ds,rfl,.inl h1,h2.same I1.sub,ok,fin vs h2⟩
      | tup ds'=>
        cases hi
        obtain ⟨q,vs,rfl,h1,h2⟩:=rep_tup I1 rx
        exact ⟨q,vs,ds,rfl,.inr h1,h2.same I1.sub,ok,fin vs h2⟩
      | _=>cases hi
    · cases hf
end
end L2
namespace L2
open PySem PySem.Spec PyProof.Rows
noncomputable def cutL {α:Type} (xs:List α) (lo hi:Option Int):List α:=(xs.drop (HT.sIx xs.length 0 lo)).take (HT.sIx xs.length xs.length hi - HT.sIx xs.length 0 lo)
theorem Reps.cut {K:PySem.W.Frag} {F:Hp} {vs:List V} {ds:List D} (r:Reps K F vs ds) (lo hi:Option Int):Reps K F (cutV vs lo hi) (cutL ds lo hi):=by
  unfold cutV cutL
  rw [r.length]
  exact (r.drop _).take _
noncomputable def tOI (K:PySem.W.Frag) (f:DF→Option (Option Int)):TO:=fun σ H Q=>∃ P F ρ b,f ρ=some b∧DInv K P F H ρ σ∧∀ F' H',Evo P F H F' H'→Q b H'
noncomputable def PDB (X:Cx) (e:Option Expr) (f:DF→Option (Option Int)):Prop:=PO X e (tOI X.K f)
noncomputable def bNo:DF→Option (Option Int):=fun _=>some none
noncomputable def bI (f:DF→Option D):DF→Option (Option Int):=fun ρ=>match f ρ with
  | some (.int i)=>some (some i)
  | _=>none
section
variable {X:Cx} {e a b c o:Expr} {es:List Expr} {pos p p2:Pos} {lo hi:Option Expr} {fe fa fb:DF→Option D} {fl fh:DF→Option (Option Int)}
theorem PO.imp {t t':TO} {e:Option Expr} (h:PO X e t) (i:∀ σ H Q,t' σ H Q→t σ H Q):PO X e t':=fun pins s σ H Q I q=>h pins s σ H Q I (i σ H Q q)
theorem pdb_no:PDB X none bNo:=PO.imp po_none fun σ H Q=>un7 fun P F ρ b hf I k=>by
  cases hf
  exact k F H (Evo.refl I.toDHp)
theorem pdb_i {f:DF→Option D} (h:PDE X e f):PDB X (some e) (bI f):=PO.imp (po_some h) fun σ H Q=>un7 fun P F ρ b hf I k=>by
  unfold bI at hf
  split at hf
  · rename_i i q
    cases hf
    refine ⟨P,F,ρ,_,q,I,fun v F' H' ev r=>?_⟩
    cases r
    exact ⟨i,rfl,k F' H' ev⟩
  · cases hf
noncomputable def slL (fe:DF→Option D) (fl fh:DF→Option (Option Int)):DF→Option (List D):=fun ρ=>match fe ρ with
  | some (.lst xs)=>(fl ρ).bind fun l=>(fh ρ).map fun h=>cutL xs l h
  | _=>none
theorem pdo_slice (he:PDR X e fe) (hl:PDB X lo fl) (hh:PDB X hi fh):PDO X (.Subscript e (.Slice lo hi none p2) pos) (asL (slL fe fl fh)):=(pe_slice sl_list he hl hh).imp fun σ H Q=>un7 fun P F ρ ob hf I k=>by
  unfold asL at hf
  cases q:slL fe fl fh ρ with
  | none=>rw [q] at hf; cases hf
  | some out=>
  rw [q] at hf
  cases hf
  unfold slL at q
  split at q
  · rename_i xs q1
    cases q2:fl ρ with
    | none=>rw [q2] at q; cases q
    | some l=>
    rw [q2,Option.bind_some] at q
    cases q3:fh ρ with
    | none=>rw [q3] at q; cases q
    | some h=>
    rw [q3] at q
    cases q
    refine ⟨P,F,ρ,_,q1,I,fun x F1 H1 e1 rx=>⟨P,F1,ρ,l,q2,I.evo e1,fun F2 H2 e2=>⟨P,F2,ρ,h,q3,(I.evo e1).evo e2,fun F3 H3 e3=>?_⟩⟩⟩
    have e123:=(e1.trans e2).trans e3
    obtain ⟨l',vs,rfl,h1,h2⟩:=rep_lst (I.evo e123) ((rx.same e2.ext).same e3.ext)
    exact ⟨l',vs,rfl,h1,fun p hp=>k p F3 _ (e123.trans (Evo.side e123.hp hp)) ⟨⟨e123.back I.toDHp hp,(e123.hp.free hp).1⟩,_,upd_same,h2.cut l h⟩⟩
  · cases q
noncomputable def rCatTT (K:PySem.W.Frag):R2:=fun x y H Q=>∃ a b xs ys,x=.ref a∧y=.ref b∧SqT K H a xs∧SqT K H b ys∧xs.length + ys.length≤sizeLine ∧
  (xs=[]→Q (.ref b) H)∧(xs≠[]→ys=[]→Q (.ref a) H)∧(xs≠[]→ys≠[]→∀ p,H p=none→Q (.ref p) (upd H p (.tup (xs++ys))))
theorem op_catTT:OpR X (binaryOp .Add) (rCatTT X.K):=by
  intro pins s σ H x y v u Q I rx ry h
  obtain ⟨a,b,xs,ys,rfl,rfl,ha,hb,hz,q0,q1,q2⟩:=h
  by_cases hx:xs=[]
  · cases rx
    cases ry
    obtain ⟨its,r1,p1,_⟩:=I.tuple ha
    obtain ⟨its2,r2,p2,_⟩:=I.tuple hb
    have hi:its=[]:=r1.nil_iff.mpr hx
    obtain ⟨⟨cls,dd,data,sl⟩,ho,hc,n,hd⟩:=id p1
    obtain ⟨⟨cls2,dd2,data2,sl2⟩,ho2,hc2,n2,hd2⟩:=id p2
    simp only at hc hd hc2 hd2
    subst hc hd hc2 hd2
    exact concat_meets ⟨_,ho,rfl⟩ ⟨_,ho2,rfl⟩ noFill_tuple_add seq_tuple_add PySem.F.slot_tuple_add PySem.F.entry_tuple_add (PySem.F.args_tuple_add_2 _ _)
      (tuple_addW0 a b its.toArray its2.toArray n n2 dd dd2 sl sl2 (by simp [hi])) ⟨ho,ho2,⟨.ref b,H,I,rfl,q0 hx⟩⟩
  · exact op_catT pins s σ H _ _ v u Q I rx ry ⟨a,b,xs,ys,rfl,rfl,ha,hb,hx,hz,q1 hx,q2 hx⟩
noncomputable def addA:D→D→Option D
  | .int i,.int j=>some (.int (i + j))
  | .str x,.str y=>if x.length + y.length≤16777216 then some (.str (x++y)) else none
  | .lst xs,.lst ys=>if xs.length + ys.length≤16777216 then some (.lst (xs++ys)) else none
  | .tup xs,.tup ys=>if xs.length + ys.length≤16777216 then some (.tup (xs++ys)) else none
  | _,_=>none
theorem Reps.nil_iff {K:PySem.W.Frag} {H:Hp} {vs:List V} {ds:List D} (r:Reps K H vs ds):vs=[]↔ds=[]:=by
  cases r with
  | nil=>simp
  | cons _ _=>simp
theorem od_addA {K:PySem.W.Frag}:OpD2 K (fun x y H Q=>rAddD x y H Q∨(rCatL K x y H Q∨rCatTT K x y H Q)) addA:=by
  intro P F H ρ σ x y dx dy d Q hf I rx ry k
  unfold addA at hf
  split at hf
  · cases hf
    exact .inl (.inl ⟨_,_,rep_int rx,rep_int ry,k _ F H (Evo.refl I.toDHp) .int⟩)
  · split at hf
    · rename_i h
      cases hf
      exact .inl (.inr ⟨_,_,rep_str rx,rep_str ry,by rw [sizeLine_eq]; exact h,k _ F H (Evo.refl I.toDHp) .str⟩)
    · cases hf
  · split at hf
    · rename_i hz
      cases hf
      obtain ⟨l,vs,rfl,h1,h2⟩:=rep_lst I rx
      obtain ⟨l2,vs2,rfl,h3,h4⟩:=rep_lst I ry
      exact .inr (.inl ⟨l,l2,vs,vs2,rfl,rfl,h1,h3,by rw [h2.length,h4.length,sizeLine_eq]; exact hz,fun p hp=>k _ _ _ (Evo.laid I.toDHp hp) (.lst (SqL.of upd_same) ((h2.append h4).same (same_upd (I.toDHp.free hp).1)))⟩)
    · cases hf
  · split at hf
    · rename_i xs ys hz
      cases hf
      obtain ⟨l,vs,rfl,h1,h2⟩:=rep_tup I rx
      obtain ⟨l2,vs2,rfl,h3,h4⟩:=rep_tup I ry
      have tr:∀ {y:V} {ds:List D},RepS K ρ σ F y (.tup ds)→Rep K F y (.tup ds):=fun h=>by
        rcases h with h | ⟨_,ob,_,_,_,z⟩
        · exact h
        · cases ob <;> cases z
      refine .inr (.inr ⟨l,l2,vs,vs2,rfl,rfl,h1,h3,by rw [h2.length,h4.length,sizeLine_eq]; exact hz,fun z=>?_,fun _ z=>?_,fun _ _ p hp=>?_⟩)
      · have:xs=[]:=h2.nil_iff.mp z
        subst this
        exact k _ F H (Evo.refl I.toDHp) (tr ry)
      · have:ys=[]:=h4.nil_iff.mp z
        subst this
        rw [List.append_nil] at k
        exact k _ F H (Evo.refl I.toDHp) (tr rx)
      · exact k _ _ _ (Evo.laid I.toDHp hp) (.tup upd_same ((h2.append h4).same (same_upd (I.toDHp.free hp).1)))
    · cases hf
  · cases hf
theorem pd_addA (ha:PDR X a fa) (hb:PDR X b fb):PDE X (.BinOp a .Add b pos) (d2 addA fa fb):=pd_bin ((op_add.or op_add_str).or (op_catL.or op_catTT)) od_addA ha hb
noncomputable def isT:String→D→Option Bool
  | "int",.int _=>some true
  | "bool",.int _=>some false
  | "list",.lst _=>some true
  | _,_=>none
noncomputable def rIsi (K:PySem.W.Frag):List V→Hp→VK→Prop:=fun xs H Q=>∃ x T d b,xs=[x,.ty T]∧Rep K H x d∧isT T d=some b∧Q (.bl b) H
theorem call_isi:CallR X (.builtin "isinstance") (rIsi X.K):=by
  intro pins s σ H xs us Q I r h
  obtain ⟨x,T,d,b,rfl,hr,ht,q⟩:=h
  obtain ⟨u,w',rfl,r1,r2⟩:=vals2 r
  cases (show w'=Value.type T from r2)
  have f1:EP X pins σ Q (.bool b) s:=⟨.bl b,H,I,rfl,q⟩
  have f2:EP X pins σ Q (.bool b) { s with toks:=s.toks + 1 }:=⟨.bl b,H,I.tok _,rfl,q⟩
  unfold isT at ht
  split at ht <;> cases ht <;> cases hr
  · obtain ⟨t,rfl⟩:=(show ∃ t,u=Value.int _ t from r1); exact PySem.IsiPair.int_int f1
  · obtain ⟨t,rfl⟩:=(show ∃ t,u=Value.int _ t from r1); exact PySem.IsiPair.int_bool f2
  · cases (show u=Value.ref _ from r1); rename_i hs _; obtain ⟨_,_,⟨o,n,e,c,_⟩,_⟩:=I.list hs; exact PySem.IsiPair.list_list e c f1
noncomputable def isTD (T:String) (d:D):Option D:=(isT T d).map .bl
theorem pd_isi {x:Str} {T:String} {p1:Pos} (hg:Gl X "isinstance") (hm:X.mg "isinstance"=none) (hgt:Gl X x) (hmt:X.mg x=none) (hv:bootBuiltins x=some (.type T)) (ha:PDN X a fa) (hn:x ≠ "__name__":=by decide) (hd:(x == ("__debug__":Str))=false:=by decide)
    (hs:starEach [a,.Name x p1] X.env=[(false,eval a X.env),(false,eval (.Name x p1) X.env)]:=by rfl) (hs2:starEach [.Name x p1] X.env=[(false,eval (.Name x p1) X.env)]:=by rfl) (hpl:(backTo pos (starEach [.Name x p1] X.env)).any (·.1)=false:=by rfl) :
    PDE X (.Call (.Name "isinstance" p) [a,.Name x p1] [] pos) (d1 (isTD T) fa):=
  (pe_callB call_isi hg hm boot_isinstance (pa_cons ha (pa_cons (pe_bltn (v:=.ty T) hgt hmt hv rfl hn hd) pa_nil hs2) (by rw [hs,hs2])) (by decide) (by decide) (by rw [hs,hs2]) hpl).imp fun σ H Q=>un7 fun P F ρ d hf I k=>by
    unfold d1 isTD at hf
    cases q:fa ρ with
    | none=>rw [q] at hf; cases hf
    | some dx=>
      rw [q,Option.bind_some] at hf
      cases q2:isT T dx with
      | none=>rw [q2] at hf; cases hf
      | some b=>
        rw [q2] at hf
        cases hf
        exact ⟨P,F,ρ,dx,q,I,fun y F1 H1 e1 r1=>⟨y,T,dx,b,rfl,r1,q2,k _ F1 H1 e1 .bl⟩⟩
end
section
variable {X:Cx} {pins:List (Addr×Obj)} {σ:St} {H:Hp} {s:Shared}
theorem not_both (I:Inv X pins σ H s) {a:Addr} {xs ys:List V} (h1:SqT X.K H a xs) (h2:SqL X.K H a ys):False:=by
  obtain ⟨_,_,⟨o,e,c,_⟩,_⟩:=I.tuple h1
  obtain ⟨_,_,⟨o',n,e',c',_⟩,_⟩:=I.list h2
  rw [e] at e'
  cases e'
  rw [c] at c'
  injection c' with z
  exact absurd z (by decide)
theorem Reps.detOf {n:Nat} (ih:∀ {v:V} {d d':D},okN n d=true→okN n d'=true→Rep X.K H v d→Rep X.K H v d'→d=d') {vs:List V} {ds:List D} (h:Reps X.K H vs ds):∀ ds':List D,(∀ d∈ds,okN n d=true)→(∀ d∈ds',okN n d=true)→Reps X.K H vs ds'→ds=ds':=
  Reps.ind (M:=fun vs ds=>∀ ds':List D,(∀ d∈ds,okN n d=true)→(∀ d∈ds',okN n d=true)→Reps X.K H vs ds'→ds=ds') (fun ds' _ _ r=>by cases r; rfl) (fun a _ i ds' h h' r=>by
    cases r with
    | cons a' r'=>rw [ih (h _ List.mem_cons_self) (h' _ List.mem_cons_self) a a',i _ (fun d m=>h d (List.mem_cons_of_mem _ m)) (fun d m=>h' d (List.mem_cons_of_mem _ m)) r']) h
theorem Rep.det1 (I:Inv X pins σ H s) (n:Nat) (ih:∀ m,n=m + 1→∀ {v:V} {d d':D},okN m d=true→okN m d'=true→Rep X.K H v d→Rep X.K H v d'→d=d') {v:V} {d d':D} (h:okN n d=true) (h':okN n d'=true) (q:Rep X.K H v d) (r:Rep X.K H v d'):d=d':=by
  cases q with
  | non=>cases r; rfl
  | bl=>cases r; rfl
  | int=>cases r; rfl
  | str=>cases r; rfl
  | tup a1 a2=>
    cases r with
    | tup b1 b2=>
      rw [a1] at b1
      cases b1
      cases n with
      | zero=>cases h
      | succ n=>rw [Reps.detOf (ih n rfl) a2 _ (okN_all h) (okN_all h') b2]
    | lst b1 b2=>exact (not_both I (SqT.of a1) b1).elim
    | dT b1 b2=>rw [a1] at b1; cases b1
    | dK b1 b2=>rw [a1] at b1; cases b1
    | ins b1 b2=>rw [a1] at b1; cases b1
  | lst a1 a2=>
    cases r with
    | tup b1 b2=>exact (not_both I (SqT.of b1) a1).elim
    | lst b1 b2=>
      have e:=I.list_inj a1 b1
      subst e
      cases n with
      | zero=>cases h
      | succ n=>rw [Reps.detOf (ih n rfl) a2 _ (okN_all h) (okN_all h') b2]
    | _=>cases n <;> cases h'
  | _=>cases n <;> cases h
theorem Rep.det (I:Inv X pins σ H s) (n:Nat):∀ {v:V} {d d':D},okN n d=true→okN n d'=true→Rep X.K H v d→Rep X.K H v d'→d=d':=by
  induction n with
  | zero=>exact fun h h' q r=>Rep.det1 I 0 (fun m e=>by cases e) h h' q r
  | succ n ih=>exact fun h h' q r=>Rep.det1 I (n + 1) (fun m e=>by cases e; exact ih) h h' q r
theorem relV_inj {v v':V} {u:Value} (h:RelV v u) (h':RelV v' u):v=v':=RelV.inj h h'
open Classical in
noncomputable def hitV (us:List Value) (ds:List D) (dy:D) (u:Value):Bool:=decide (∃ (i:Nat) (d:D),us[i]?=some u∧ds[i]?=some d∧eqd d dy=true)
open Classical in
theorem hitV_at (I:Inv X pins σ H s) {n:Nat} {vs:List V} {ds:List D} {us:List Value} {dy:D} (r:Reps X.K H vs ds) (rv:Vals vs us) (ok:∀ d∈ds,okN n d=true) {i:Nat} {u:Value} {d:D} (hu:us[i]?=some u) (hd:ds[i]?=some d):hitV us ds dy u=eqd d dy:=by
  unfold hitV
  cases q:eqd d dy with
  | true=>exact decide_eq_true ⟨i,d,hu,hd,q⟩
  | false=>
    refine decide_eq_false ?_
    rintro ⟨j,d',h1,h2,h3⟩
    obtain ⟨v,a1,a2⟩:=r.get hd
    obtain ⟨v',b1,b2⟩:=r.get h2
    obtain ⟨u1,c1,c2⟩:=rv.get a1
    obtain ⟨u2,c3,c4⟩:=rv.get b1
    rw [hu] at c1; cases c1
    rw [h1] at c3; cases c3
    have e:=relV_inj c2 c4
    subst e
    have:=a2.det I n (ok d (List.mem_of_getElem? hd)) (ok d' (List.mem_of_getElem? h2)) b2
    rw [this,h3] at q
    cases q
theorem hit_eqAt (I:Inv X pins σ H s) {vs:List V} {ds:List D} {us:List Value} {y:V} {dy:D} {uy:Value} (r:Reps X.K H vs ds) (rv:Vals vs us) (ok:∀ d∈ds,okN 29 d=true) (ry:Rep X.K H y dy) (oy:okN 30 dy=true) (ky:RelV y uy) {A:Around} (hu:A.units + 60 < cLine) :
    ∀ u∈us,SeqAt.EqAt A s u uy (hitV us ds dy u):=fun u hu'=>by
  obtain ⟨i,hi,eu⟩:=List.getElem_of_mem hu'
  have l1:=r.length
  have l2:=rv.length
  have hiv:i < vs.length:=by lia
  obtain ⟨u',e1,k1⟩:=rv.get (List.getElem?_eq_getElem hiv)
  rw [List.getElem?_eq_getElem hi,eu] at e1
  cases e1
  obtain ⟨d,e2,r2⟩:=r.getV (List.getElem?_eq_getElem hiv)
  rw [hitV_at I r rv ok (by rw [List.getElem?_eq_getElem hi,eu]) e2]
  have od:=ok d (List.mem_of_getElem? e2)
  obtain ⟨a1,p1⟩:=r2.reads I 29 od k1
  obtain ⟨a2,p2⟩:=ry.reads I 30 oy ky
  obtain ⟨l1',m1⟩:=okN_lay 29 d od
  obtain ⟨l2',m2⟩:=okN_lay 30 dy oy
  refine PySem.SeqAt.eqAt_reads _ _ A s _ _ _ _ p1 p2 l1' l2' ?_
  have:min (toPy d).depth (toPy dy).depth≤30:=Nat.le_trans (Nat.min_le_left _ _) m1
  lia
end
noncomputable def idxD (dy:D):List D→Option Nat
  | []=>none
  | d::r=>if eqd d dy=true then some 0 else (idxD dy r).map (· + 1)
theorem idxD_some {dy:D}:∀ {ds:List D} {j:Nat},idxD dy ds=some j→(∃ d,ds[j]?=some d∧eqd d dy=true)∧∀ m,m < j→∃ d,ds[m]?=some d∧eqd d dy=false
  | [],_,h=>by cases h
  | d::r,j,h=>by
    unfold idxD at h
    split at h
    · rename_i q
      cases h
      exact ⟨⟨d,rfl,q⟩,fun m hm=>by lia⟩
    · rename_i q
      cases q2:idxD dy r with
      | none=>rw [q2] at h; cases h
      | some k=>
        rw [q2] at h
        have h:=Option.some.inj h
        have h:k + 1=j:=h
        subst h
        obtain ⟨h1,h2⟩:=idxD_some q2
        refine ⟨by simpa using h1,fun m hm=>?_⟩
        cases m with
        | zero=>exact ⟨d,rfl,by simpa using q⟩
        | succ m=>simpa using h2 m (by lia)
noncomputable def rIdx (K:PySem.W.Frag):V→List V→Hp→VK→Prop:=fun x vs H Q=>∃ l xs ds y dy j,x=.ref l∧vs=[y]∧SqL K H l xs∧Reps K H xs ds∧Rep K H y dy∧ds.all (okN 29)=true∧okN 30 dy=true∧idxD dy ds=some j∧Q (.int j) H
section
variable {X:Cx} {e a b c o:Expr} {es:List Expr} {pos p apos cpos:Pos} {fe fa fb:DF→Option D}
theorem mt_index (hu:X.A.units + 64 < cLine):MtR X "list.index" (rIdx X.K):=by
  intro pins s σ H x vs v us Q I rx rvv h
  obtain ⟨l,xs,ds,y,dy,j,rfl,rfl,hq,r,ry,ok,oy,hj,q⟩:=h
  cases rx
  obtain ⟨u,rfl,ru⟩:=rvv.one
  obtain ⟨its,rv,pl,hz⟩:=I.list hq
  obtain ⟨⟨cls,dd,data,sl⟩,n,ho,hc,hdd,hd⟩:=pl
  simp only at hc hd
  subst hc hd
  obtain ⟨⟨d0,j1,j2⟩,j3⟩:=idxD_some hj
  have l1:=r.length
  have l2:=rv.length
  have hjl:j < ds.length:=(List.getElem?_eq_some_iff.mp j1).1
  have hlt:j < its.toArray.size:=by rw [List.size_toArray]; lia
  have ok':=okN_all ok
  have at':∀ (m:Nat) (hm:m < its.toArray.size) d,ds[m]?=some d→hitV its ds dy its.toArray[m]=eqd d dy:=fun m hm d hd=>hitV_at I r rv ok' (by simp) hd
  refine call_meets PySem.F.slot_list_index ⟨_,ho,rfl⟩ PySem.F.entry_list_index (PySem.F.args_list_index_2 _ _)
    (PySem.SeqAt.list_indexAt l its.toArray n dd sl u (hitV its ds dy) j hlt (by have:=sizeLine_eq; lia) (by rw [at' j hlt d0 j1]; exact j2) fun m hm hmj=>?_) ⟨ho,fun z hz=>hit_eqAt I r rv ok' ry oy ru (A:=X.A.in1) (by show X.A.units + 1 + 60 < cLine; lia) z (by simpa using hz),⟨.int j,H,I.tok _,⟨_,rfl⟩,q⟩⟩
  obtain ⟨d,e1,e2⟩:=j3 m hmj
  rw [at' m hm d e1]
  exact e2
noncomputable def idxM:D→D→Option D
  | .lst ds,y=>if (ds.all (okN 29)&&okN 30 y)=true then (idxD y ds).map (fun (j:Nat)=>D.int (j:Int)) else none
  | _,_=>none
theorem tBM_n2 {K:PySem.W.Frag} {r:V→List V→Hp→VK→Prop} {f:D→D→Option D} {fa fb:DF→Option D} (hl:∀ dx dy d,f dx dy=some d→∃ ds,dx=.lst ds)
    (ho:∀ (P F H:Hp) (l:Addr) (vs:List V) (y:V) (ds:List D) (dy d:D) (Q:VK),f (.lst ds) dy=some d→DHp P F H→SqL K H l vs→Reps K H vs ds→Rep K H y dy→(∀ v F' H',Evo P F H F' H'→Rep K F' v d→Q v H')→r (.ref l) [y] H Q) :
    ∀ σ H Q,tD K (d2 f fa fb) σ H Q→tBM K "list" r (tN K fa) (tCons (tN K fb) tNil) σ H Q:=fun σ H Q=>un7 fun P F ρ d hf I k=>by
  unfold d2 at hf
  cases ha:fa ρ with
  | none=>rw [ha] at hf; cases hf
  | some dx=>
    rw [ha] at hf
    cases hb:fb ρ with
    | none=>rw [Option.bind_some,hb] at hf; cases hf
    | some dy=>
      rw [Option.bind_some,hb,Option.bind_some] at hf
      obtain ⟨ds,rfl⟩:=hl dx dy d hf
      refine ⟨P,F,ρ,_,ha,I,fun x F1 H1 e1 rx=>?_⟩
      cases rx with
      | lst h1 h2=>
        refine ⟨.inl ⟨rfl,_,h1⟩,P,F1,ρ,dy,hb,I.evo e1,fun y F2 H2 e2 ry=>?_⟩
        have sm:=e2.same e1.hp
        exact ho P F2 H2 _ _ y ds dy d Q hf e2.hp (sm.seq h1) (h2.same sm) ry fun v F3 H3 e3 rv=>k v F3 H3 ((e1.trans e2).trans e3) rv
theorem pd_index (hu:X.A.units + 64 < cLine) (ho:PDN X o fa) (ha:PDN X e fb) (hbase:attributeBase o "index" X.env (eval o X.env)=eval o X.env:=by rfl)
    (hfew:((backTo cpos (starEach [e] X.env)).all (fun x=>!x.1)&&(backToKw cpos (keywordEach [] X.env)).all (fun x=>x.1.isSome)
      && decide (([e]:List Expr).length + ([]:List Keyword).length + (if ([]:List Keyword).isEmpty then 0 else 1) < 30))=true:=by rfl)
    (hline:(apos.endLine == cpos.line)=true:=by rfl) (hs:starEach [e] X.env=[(false,eval e X.env)]:=by rfl) :
    PDE X (.Call (.Attribute o "index" apos) [e] [] cpos) (d2 idxM fa fb):=
  (pe_bm PySem.F.plainAttrs_list PySem.F.slot_list_index PySem.F.type_list_index (mt_index hu) ho (pa_cons ha pa_nil hs) hbase hfew hline hs rfl).imp (tBM_n2 (fun dx dy d h=>by cases dx <;> first | exact ⟨_,rfl⟩ | cases h)
    fun P F H l vs y ds dy d Q hf hp h1 h2 h3 k=>by
      have hf:(if (ds.all (okN 29)&&okN 30 dy)=true then (idxD dy ds).map (fun (j:Nat)=>D.int (j:Int)) else none)=some d:=hf
      split at hf
      · rename_i c
        rw [Bool.and_eq_true] at c
        cases q:idxD dy ds with
        | none=>rw [q] at hf; cases hf
        | some j=>rw [q] at hf; cases hf; exact ⟨l,vs,ds,y,dy,j,rfl,rfl,h1,h2,h3,c.1,c.2,q,k _ F H (Evo.refl hp) .int⟩
      · cases hf)
end
section
variable {X:Cx} {tg e a b c o l:Expr} {es:List Expr} {pos p apos cpos spos:Pos} {fe fa fb fc:DF→Option D}
theorem pd_gint {x:Str} {i:Int} {t:Tok} (hg:Gl X x) (hm:X.mg x=some (.int i t)) (hd:(x == ("__debug__":Str))=false:=by decide):PDE X (.Name x pos) (fun _=>some (.int i)):=pde_c (pe_glob hg hm (v:=.int i) ⟨t,rfl⟩ hd) fun _=>.int
noncomputable def isBl:D→Bool
  | .bl _=>true
  | _=>false
noncomputable def trD:D→Bool
  | .bl b=>b
  | _=>false
noncomputable def allD:D→Option D
  | .lst ds=>if ds.all isBl=true then some (.bl (ds.all trD)) else none
  | _=>none
noncomputable def rAll (K:PySem.W.Frag):List V→Hp→VK→Prop:=fun xs H Q=>∃ l vs ds,xs=[.ref l]∧SqL K H l vs∧Reps K H vs ds∧ds.all isBl=true∧Q (.bl (ds.all trD)) H
theorem all_range {ds:List D}:(List.range ds.length).all (fun i=>trD (ds.getD i .non))=ds.all trD:=by
  rw [Bool.eq_iff_iff,List.all_eq_true,List.all_eq_true]
  constructor
  · intro h d hd
    obtain ⟨i,hi,e⟩:=List.getElem_of_mem hd
    have:=h i (List.mem_range.mpr hi)
    rw [List.getD_eq_getElem?_getD,List.getElem?_eq_getElem hi,e] at this
    exact this
  · intro h i hi
    have hi:=List.mem_range.mp hi
    rw [List.getD_eq_getElem?_getD,List.getElem?_eq_getElem hi]
    exact h _ (List.getElem_mem hi)
theorem call_allD (hc:X.calm=true):CallR X (.builtin "all") (rAll X.K):=by
  intro pins s σ H xs us Q I r h
  obtain ⟨l,vs,ds,rfl,hq,hr,hb,q⟩:=h
  obtain ⟨u,rfl,ru⟩:=vals1 r
  cases ru
  obtain ⟨its,rv,pl,hz⟩:=I.list hq
  have ho:=pl.isList
  have l1:=hr.length
  have l2:=rv.length
  refine call_all_walk (wpAny_pyIter_list ho ?_)
  have hlt:l < s.heap.objs.size:=by obtain ⟨o,e,_⟩:=ho; exact Heap.lt_size e
  refine ⟨s.heap.objs.size,[s.heap.objs.size,l],[s.heap.objs.size],its.toArray.size,_,_,fun i=>trD (ds.getD i .non),rfl,Walks.list (by show X.A.in1.handled=none; exact I.ok.hd hc) s.heap.objs.size l (Nat.ne_of_lt hlt) its.toArray,⟨⟨_,Heap.get?_push_size _ rfl,rfl,rfl⟩,ho.at fun o e=>Heap.get?_push_of_some _ e⟩,fun i v s' Q' E' hv hq'=>?_,fun h' tk k=>?_⟩
  · have hv:its[i]?=some v:=by simpa using hv
    have hi:i < its.length:=(List.getElem?_eq_some_iff.mp hv).1
    have hid:i < ds.length:=by lia
    obtain ⟨w',a1,a2⟩:=hr.get (List.getElem?_eq_getElem hid)
    obtain ⟨u',a3,a4⟩:=rv.get a1
    rw [hv] at a3
    cases a3
    have hbd:=List.all_eq_true.mp hb _ (List.getElem_mem hid)
    have eg:ds.getD i .non=ds[i]:=by rw [List.getD_eq_getElem?_getD,List.getElem?_eq_getElem hid]; rfl
    have hq':Q' (trD (ds.getD i .non)) s':=hq'
    rw [eg] at hq'
    generalize ds[i]=d at *
    cases d with
    | bl b=>cases a2; cases (show v=Value.bool _ from a4); exact wpAny_truthy_bool hq'
    | _=>cases hbd
  · have e:its.toArray.size=ds.length:=by rw [List.size_toArray]; lia
    rw [e,all_range]
    refine ⟨.bl _,H,I.kept (t':=tk) fun b o e=>k b o (fun z=>?_) (Heap.get?_push_of_some _ e),rfl,q⟩
    have z:b=s.heap.objs.size:=by simpa using z
    rw [z] at e
    exact absurd (Heap.lt_size e) (Nat.lt_irrefl _)
theorem pd_all (hc:X.calm=true) (hg:Gl X "all") (hm:X.mg "all"=none) (ha:PDN X e fa) (hs:starEach [e] X.env=[(false,eval e X.env)]:=by rfl) (hpl:(backTo pos (starEach [] X.env)).any (·.1)=false:=by rfl) :
    PDE X (.Call (.Name "all" p) [e] [] pos) (d1 allD fa):=
  (pe_callB (call_allD hc) hg hm boot_all (pa_cons ha pa_nil hs) (by decide) (by decide) hs hpl).imp (tCB_n1 fun P F H x dx d Q hf hp rx k=>by
    cases dx with
    | lst ds=>
      have hf:(if ds.all isBl=true then some (D.bl (ds.all trD)) else none)=some d:=hf
      split at hf
      · rename_i hb
        cases hf
        cases rx with | lst h1 h2=>exact ⟨_,_,ds,rfl,h1,h2,hb,k _ F H (Evo.refl hp) .bl⟩
      · cases hf
    | _=>cases hf)
noncomputable def Its (x:Str):It:=⟨fun i _=>i < x.cps.size,fun i H v H'=>H'=H∧v=.str ⟨#[x.cps.getD i 0]⟩,fun i _=>x.cps.size≤i⟩
theorem turn_str {P:Program} {w:World} {K:PySem.W.Frag} {tg:Expr} (it:Addr) (x:Str) (t:Tok) (ty:String) (hty:["enumerate", "zip", "dict_itemiterator", "dict_reverseitemiterator", "odict_iterator", "itertools.zip_longest", "itertools.pairwise"].contains ty=false) (W:∀ A:Around,A.handled=none→Walks P w A it [it] [it] x.cps.size (SignAt x) (fun i h=>h.IsStrIter it ty x t i))
    (hself:∀ (A:Around) (i:Nat) (s:Shared) (Q:Value→Shared→Prop) (E:Value→Shared→Prop),s.heap.IsStrIter it ty x t i→Q (.ref it) s→wpAny (model P w) A (pyIter (.ref it)) Q E s):Turn P w K tg (Its x) [it] it (fun i h=>h.IsStrIter it ty x t i∧i≤x.cps.size) where
  mem:=by simp
  obj:=fun i h st b hb=>by
    have e:b=it:=by simpa using hb
    subst e
    obtain ⟨⟨o,e,c,d⟩,_⟩:=st
    exact ⟨o,e,fun v z=>by rw [d] at z; cases z⟩
  keep:=fun i h h' st k=>by obtain ⟨⟨o,e,r⟩,hl⟩:=st; exact ⟨⟨o,k it (by simp) o e,r⟩,hl⟩
  item:=by
    intro X hP hw hK hc i pins s σ H E I hf st hg
    subst hP hw hK
    obtain ⟨f0,f1,f2,f3,f4,f5⟩:=hf it (by simp)
    have hg:i < x.cps.size:=hg
    refine (W X.A (I.ok.hd hc)).item i s _ _ hg st.1 fun v h' tk hv st' kk=>?_
    obtain ⟨c,u,hcs,rfl⟩:=hv
    have I1:Inv X pins σ H { s with heap:=h',toks:=tk }:=I.turned (fun b o hb e=>kk b o (by simpa using hb) e) f0 f1 f3 f4 f5
    obtain ⟨o,ho,hoc,hod⟩:=id st'
    have ec:x.cps.getD i 0=c:=by simp [Array.getD_eq_getD_getElem?,hcs]
    refine ⟨_,rfl,go_of (s:={ s with heap:=h',toks:=tk }) (n:=ty) ho hoc hod hty ⟨.str ⟨#[c]⟩,H,I1,⟨u,rfl⟩,⟨rfl,by rw [ec]⟩,⟨st',hg⟩,fun b hb=>(hf b hb).1⟩⟩
  done:=by
    intro X hP hw hK hc i pins s σ H E I hf st hg
    subst hP hw hK
    obtain ⟨f0,f1,f2,f3,f4,f5⟩:=hf it (by simp)
    have hg:x.cps.size≤i:=hg
    have hi:i=x.cps.size:=Nat.le_antisymm st.2 hg
    subst hi
    exact (W X.A (I.ok.hd hc)).done s _ _ st.1 fun h' tk kk=>⟨rfl,I.turned (fun b o hb e=>kk b o (by simpa using hb) e) f0 f1 f3 f4 f5⟩
  self:=fun A i s Q E st h=>hself A i s Q E st.1 h
noncomputable def iStr (tl:TE):TI:=fun σ H R=>tl σ H fun x H1=>∃ z,x=.str z∧R (Its z) H1
theorem pi_str {tl:TE} (hl:PE X l tl):PI X tg l (iStr tl):=by
  intro pins s σ H R I h
  refine thnG (hl pins s σ H _ I h) fun v s1 x H1 I1 r1 hh_=>?_
  obtain ⟨z,e,q⟩:=hh_
  subst e
  obtain ⟨t,rfl⟩:=r1
  have fin:∀ (ob:Obj) (ty:String),["enumerate", "zip", "dict_itemiterator", "dict_reverseitemiterator", "odict_iterator", "itertools.zip_longest", "itertools.pairwise"].contains ty=false→(∀ A:Around,A.handled=none→Walks X.prog X.w A s1.heap.objs.size [s1.heap.objs.size] [s1.heap.objs.size] z.cps.size (SignAt z) (fun i h=>h.IsStrIter s1.heap.objs.size ty z t i))→
      (∀ (A:Around) (i:Nat) (s:Shared) (Q:Value→Shared→Prop) (E:Value→Shared→Prop),s.heap.IsStrIter s1.heap.objs.size ty z t i→Q (.ref s1.heap.objs.size) s→wpAny (model X.prog X.w) A (pyIter (.ref s1.heap.objs.size)) Q E s)→
      (s1.heap.push ob).IsStrIter s1.heap.objs.size ty z t 0→PIE X pins σ tg R (.ref s1.heap.objs.size) { s1 with heap:=s1.heap.push ob }:=fun ob ty h1 h2 h3 h4=>by
    refine ⟨s1.heap.objs.size,[s1.heap.objs.size],_,_,H1,rfl,I1.kept (t':=s1.toks) fun b o e=>Heap.get?_push_of_some _ e,turn_str _ z t ty h1 h2 h3,⟨h4,Nat.zero_le _⟩,fun b hb=>?_,q⟩
    have e:b=s1.heap.objs.size:=by simpa using hb
    subst e
    exact I1.fpOk (Nat.le_refl _) (I1.hok.fresh (Nat.le_refl _))
  cases ha:z.cps.all (· < 128)
  · exact wpAny_pyIter_wide ha (fin _ "str_iterator" (by decide) (fun A' hA=>Walks.strWide hA _ z t) (fun A i s Q E st h=>wpAny_pyIter_striter_wide st h) ⟨_,Heap.get?_push_size _ rfl,rfl,rfl⟩)
  · exact wpAny_pyIter_ascii ha (fin _ "str_ascii_iterator" (by decide) (fun A' hA=>Walks.strAscii hA _ z t) (fun A i s Q E st h=>wpAny_pyIter_striter_ascii st h) ⟨_,Heap.get?_push_size _ rfl,rfl,rfl⟩)
noncomputable def signs (x:Str):List D:=x.cps.toList.map fun c=>.str ⟨#[c]⟩
noncomputable def strOf (f:DF→Option D):DF→Option (List D):=fun ρ=>match f ρ with
  | some (.str x)=>some (signs x)
  | _=>none
theorem pdi_str (h:PDE X l fa):PDI X tg l (strOf fa):=PI.imp (pi_str h) fun σ H R=>un7 fun P F ρ ds hf I k=>by
  unfold strOf at hf
  split at hf
  · rename_i x q
    cases hf
    refine ⟨P,F,ρ,_,q,I,fun v F1 H1 e1 r1=>?_⟩
    cases r1
    refine ⟨x,rfl,k _ F1 H1 e1 fun F' H' e hp i=>⟨fun d hd=>?_,fun hl=>?_⟩⟩
    · unfold signs at hd
      rw [List.getElem?_map] at hd
      cases qc:x.cps.toList[i]? with
      | none=>rw [qc] at hd; cases hd
      | some c=>
        rw [qc] at hd
        cases hd
        have hi:i < x.cps.size:=by have:=(List.getElem?_eq_some_iff.mp qc).1; simpa using this
        refine ⟨hi,fun y H2 hy=>?_⟩
        obtain ⟨rfl,rfl⟩:=hy
        have ec:x.cps.getD i 0=c:=by
          have:x.cps[i]?=some c:=by rw [← Array.getElem?_toList]; exact qc
          simp [Array.getD_eq_getD_getElem?,this]
        rw [ec]
        exact ⟨F',Evo.refl hp,.str⟩
    · unfold signs at hl
      rw [List.length_map,Array.length_toList] at hl
      exact hl
  · cases hf
end
section
variable {X:Cx} {tg e a b c o l r:Expr} {es:List Expr} {pos p p' apos cpos spos apos' cpos':Pos} {f fe fa fb fc:DF→Option D}
theorem call_rng1:CallR X (.type "range") (fun xs H Q=>∃ j:Int,xs=[.int j]∧∀ q,H q=none→Q (.ref q) (upd H q (.rng 0 j))):=by
  intro pins s σ H xs us Q I r h
  obtain ⟨j,rfl,q⟩:=h
  obtain ⟨u,rfl,t,rfl⟩:=vals1 r
  exact call_range_1 ⟨.ref s.heap.objs.size,_,I.laid (o:=.rng 0 j) (fun b ob z=>Heap.get?_push_of_some _ z) (Nat.le_refl _) ⟨_,_,_,Heap.get?_push_size _ rfl⟩,rfl,q _ (I.hok.fresh (Nat.le_refl _))⟩
noncomputable def rngV (lo:Int) (n:Nat):List V:=(List.range n).map fun i:Nat=>.int (lo + (i:Int))
theorem call_list_rng (hc:X.calm=true):CallR X (.type "list") (fun xs H Q=>∃ (q:Addr) (lo hi:Int),xs=[.ref q]∧H q=some (.rng lo hi)∧(-(2 ^ 62)≤lo∧lo < 2 ^ 62∧-(2 ^ 62)≤hi∧hi < 2 ^ 62)∧(hi - lo).toNat≤16777216∧∀ l,H l=none→Q (.ref l) (upd H l (.lst (rngV lo (hi - lo).toNat)))):=by
  intro pins s σ H xs us Q I r h
  obtain ⟨q,lo,hi,rfl,hq,⟨h1,h2,h3,h4⟩,hn,k⟩:=h
  obtain ⟨u,rfl,ru⟩:=vals1 r
  cases ru
  obtain ⟨t,u,v,ho⟩:=I.hok q _ hq
  have hsz:Builtin.Range.rangeSize lo hi 1=((hi - lo).toNat:Int):=by rw [rangeSize_one]; split <;> lia
  refine call_list_range (I.ok.hd hc) (n:=(hi - lo).toNat) ho (small_one h1 h2 h3 h4) hsz (by lia) fun h' tk acc' c' kp hget hit=>?_
  refine ⟨.ref s.heap.objs.size,_,I.laid (t':=tk) (o:=.lst (rngV lo (hi - lo).toNat)) kp (Nat.le_refl _) ⟨?_,acc'.toList,c',?_,?_⟩,rfl,k _ (I.hok.fresh (Nat.le_refl _))⟩
  · unfold rngV; rw [List.length_map,List.length_range,sizeLine_eq]; exact hn
  · obtain ⟨hs,hv⟩:=hit
    have key:∀ (n:Nat) (lo:Int) (vs:List Value),vs.length=n→(∀ (j:Nat) v,vs[j]?=some v→∃ t,v=Value.int (lo + (j:Int)) t)→Vals ((List.range n).map fun i:Nat=>V.int (lo + (i:Int))) vs:=by
      intro n
      induction n with
      | zero=>intro lo vs hl _; rw [List.length_eq_zero_iff.mp hl]; exact .nil
      | succ n ih=>
        intro lo vs hl hv
        cases vs with
        | nil=>simp at hl
        | cons v vs=>
          rw [List.range_succ_eq_map,List.map_cons,List.map_map]
          refine .cons ?_ ?_
          · obtain ⟨t,e⟩:=hv 0 v rfl
            exact ⟨t,e⟩
          · have:=ih (lo + 1) vs (by simpa using hl) fun j w hw=>by
              obtain ⟨t,e⟩:=hv (j + 1) w (by simpa using hw)
              exact ⟨t,by rw [e]; congr 1; push_cast; lia⟩
            have ef:((fun i:Nat=>V.int (lo + (i:Int))) ∘ Nat.succ)=fun i:Nat=>V.int (lo + 1 + (i:Int)):=by
              funext i
              show V.int (lo + ((i + 1:Nat):Int))=_
              congr 1; push_cast; lia
            rw [ef]
            exact this
    refine key _ lo _ (by simpa using hs) fun j v hj=>?_
    obtain ⟨t,e⟩:=hv j v (by rw [← Array.getElem?_toList]; exact hj)
    exact ⟨t,by rw [e]; congr 1; lia⟩
  · simpa using hget
theorem rngV_reps {K:PySem.W.Frag} {F:Hp} (lo:Int) (n:Nat):Reps K F (rngV lo n) (rangeL lo n):=by
  unfold rngV rangeL
  generalize List.range n=l
  induction l with
  | nil=>exact .nil
  | cons i l ih=>exact .cons .int ih
noncomputable def lrng1 (f:DF→Option D):DF→Option (List D):=fun ρ=>match f ρ with
  | some (.int j)=>if j < 16777216∧-(2 ^ 62)≤j then some (rangeL 0 j.toNat) else none
  | _=>none
theorem pdo_listRange (hc:X.calm=true) (hg:Gl X "list") (hm:X.mg "list"=none) (hg2:Gl X "range") (hm2:X.mg "range"=none) (ha:PDE X a fa) (hs0:starEach [a] X.env=[(false,eval a X.env)]:=by rfl)
    (hs:starEach [.Call (.Name "range" p') [a] [] cpos] X.env=[(false,eval (.Call (.Name "range" p') [a] [] cpos) X.env)]:=by rfl):PDO X (.Call (.Name "list" p) [.Call (.Name "range" p') [a] [] cpos] [] pos) (asL (lrng1 fa)):=
  (pe_callTy (call_list_rng hc) hg hm boot_list (pa_cons (pe_callTy call_rng1 hg2 hm2 boot_range (pa_cons ha pa_nil hs0) (he:=hs0)) pa_nil hs) (he:=hs)).imp fun σ H Q=>un7 fun P F ρ ob hf I k=>by
    unfold asL lrng1 at hf
    cases q:fa ρ with
    | none=>rw [q] at hf; cases hf
    | some dx=>
      rw [q] at hf
      cases dx with
      | int j=>
        dsimp only at hf
        split at hf
        · rename_i hj
          cases hf
          refine ⟨P,F,ρ,_,q,I,fun v F1 H1 e1 r1=>?_⟩
          cases r1
          refine ⟨j,rfl,fun q1 hq1=>⟨q1,0,j,rfl,upd_same,⟨by lia,by lia,hj.2,by lia⟩,by lia,fun l hl=>?_⟩⟩
          have e2:=e1.trans (Evo.side e1.hp (o:=.rng 0 j) hq1)
          have ej:(j - 0).toNat=j.toNat:=by lia
          rw [ej]
          exact k l F1 _ (e2.trans (Evo.side e2.hp hl)) ⟨⟨e2.back I.toDHp hl,(e2.hp.free hl).1⟩,_,upd_same,rngV_reps 0 _⟩
        · cases hf
      | _=>cases hf
noncomputable def popIx (n:Nat):D→Option Nat
  | .int k=>if -(2 ^ 63)≤k∧k < 2 ^ 63 then seqIndex? k n else none
  | _=>none
noncomputable def dPop (j:Nat) (f:DF→Option D):DF→Option (DF×D):=fun ρ=>match ρ[j]? with
  | some (some (.own (.lst ds) t))=>(f ρ).bind fun dk=>(popIx ds.length dk).bind fun k=>(ds[k]?).map fun d=>(ρ.set j (some (.own (.lst (ds.eraseIdx k)) t)),d)
  | _=>none
theorem tPop_of {K:PySem.W.Frag} {j:Nat} {f:DF→Option D} {σ:St} {H:Hp} {Q:VK} {P F:Hp} {ρ ρ':DF} {d:D} (hp:dPop j f ρ=some (ρ',d)) (I:DInv K P F H ρ σ) (k:∀ v F' H',Same F F'→DInv K P F' H' ρ' σ→Rep K F' v d→Q v H') :
    tBM K "list" rPopAt (tVar j) (tCons (tD K f) tNil) σ H Q:=by
  unfold dPop at hp
  split at hp
  · rename_i ds t q
    cases q2:f ρ with
    | none=>rw [q2] at hp; cases hp
    | some dk=>
      rw [q2,Option.bind_some] at hp
      cases q3:popIx ds.length dk with
      | none=>rw [q3] at hp; cases hp
      | some kk=>
        rw [q3,Option.bind_some] at hp
        cases q4:ds[kk]? with
        | none=>rw [q4] at hp; cases hp
        | some d'=>
          rw [q4] at hp
          cases hp
          cases dk with
          | int i=>
            have q3':(if -(2 ^ 63)≤i∧i < 2 ^ 63 then seqIndex? i ds.length else none)=some kk:=q3
            split at q3'
            · rename_i hb
              obtain ⟨a,vs,h1,h2,h3,h4,h5⟩:=own_at I q
              refine ⟨_,h1,.inl ⟨rfl,vs,SqL.of h4⟩,P,F,ρ,_,q2,I,fun v F1 H1 e1 r1=>?_⟩
              cases r1
              obtain ⟨k1,k2⟩:=e1.keep a _ h4 h2
              have r5:=h5.same e1.ext
              obtain ⟨y,y1,y2⟩:=r5.get q4
              refine ⟨a,vs,i,kk,y,rfl,rfl,k1,hb.1,hb.2,by rw [h5.length]; exact q3',y1,?_⟩
              exact k y F1 _ e1.ext ((I.evo e1).mut (o':=.lst _) (u:=.lst _) q rfl rfl h1 (r5.eraseIdx kk)) y2
            · cases q3'
          | _=>cases q3
  · cases hp
noncomputable def dAppPop (i j:Nat) (f:DF→Option D):DF→Option RES:=fun ρ=>(dPop j f ρ).bind fun r=>match r.1[i]? with
  | some (some (.own (.lst ds) t))=>if i≠j∧ds.length < 16777216 then some (.nx (r.1.set i (some (.own (.lst (ds++[r.2])) t)))) else none
  | _=>none
theorem pd_appPop (i j:Nat) (ho:PE X o (tVar i)) (hr:PE X r (tVar j)) (ha:PDE X e f) (hbase:attributeBase o "append" X.env (eval o X.env)=eval o X.env:=by rfl) (hbase':attributeBase r "pop" X.env (eval r X.env)=eval r X.env:=by rfl)
    (hfew':((backTo cpos' (starEach [e] X.env)).all (fun x=>!x.1)&&(backToKw cpos' (keywordEach [] X.env)).all (fun x=>x.1.isSome)
      && decide (([e]:List Expr).length + ([]:List Keyword).length + (if ([]:List Keyword).isEmpty then 0 else 1) < 30))=true:=by rfl)
    (hfew:((backTo cpos (starEach [.Call (.Attribute r "pop" apos') [e] [] cpos'] X.env)).all (fun x=>!x.1)&&(backToKw cpos (keywordEach [] X.env)).all (fun x=>x.1.isSome)
      && decide (([.Call (.Attribute r "pop" apos') [e] [] cpos']:List Expr).length + ([]:List Keyword).length + (if ([]:List Keyword).isEmpty then 0 else 1) < 30))=true:=by rfl)
    (hline:(apos.endLine == cpos.line)=true:=by rfl) (hline':(apos'.endLine == cpos'.line)=true:=by rfl) (hs':starEach [e] X.env=[(false,eval e X.env)]:=by rfl)
    (hs:starEach [.Call (.Attribute r "pop" apos') [e] [] cpos'] X.env=[(false,eval (.Call (.Attribute r "pop" apos') [e] [] cpos') X.env)]:=by rfl) (hsw:swapsWith (.Call (.Attribute o "append" apos) [.Call (.Attribute r "pop" apos') [e] [] cpos'] [] cpos) none pos.line X.env=pure false:=by rfl) :
    PD1 X (.Expr (.Call (.Attribute o "append" apos) [.Call (.Attribute r "pop" apos') [e] [] cpos'] [] cpos) pos) (dAppPop i j f):=
  PS.imp (ps_expr (pe_bm PySem.F.plainAttrs_list PySem.F.slot_list_append PySem.F.type_list_append mt_append ho (pa_cons (pe_bm PySem.F.plainAttrs_list PySem.F.slot_list_pop PySem.F.type_list_pop mt_popAt hr (pa_cons ha pa_nil hs') hbase' hfew' hline' hs' rfl) pa_nil hs) hbase hfew hline hs rfl) hsw) fun E σ H=>un7 fun P F ρ res hres I k=>by
    unfold dAppPop at hres
    cases q:dPop j f ρ with
    | none=>rw [q] at hres; cases hres
    | some pr=>
      rw [q,Option.bind_some] at hres
      split at hres
      · rename_i ds t qi
        split at hres
        · rename_i hc
          cases hres
          -- the i-th slot is not touched by the pop
          have qi0:ρ[i]?=some (some (.own (.lst ds) t)):=by
            have q':=q
            unfold dPop at q'
            split at q'
            · rename_i ds' t' qj
              cases z1:f ρ with
              | none=>rw [z1] at q'; cases q'
              | some dk=>
                rw [z1,Option.bind_some] at q'
                cases z2:popIx ds'.length dk with
                | none=>rw [z2] at q'; cases q'
                | some kk=>
                  rw [z2,Option.bind_some] at q'
                  cases z3:ds'[kk]? with
                  | none=>rw [z3] at q'; cases q'
                  | some d'=>
                    rw [z3] at q'
                    cases q'
                    rw [List.getElem?_set_ne (fun z=>hc.1 z.symm)] at qi
                    exact qi
            · cases q'
          obtain ⟨a,vs,h1,h2,h3,h4,h5⟩:=own_at I qi0
          refine ⟨_,h1,.inl ⟨rfl,vs,SqL.of h4⟩,?_⟩
          refine tPop_of q I fun v F' H' e I' rv=>?_
          obtain ⟨a',vs',g1,g2,g3,g4,g5⟩:=own_at I' qi
          rw [h1] at g1
          cases g1
          refine ⟨a,vs',v,rfl,rfl,g4,by rw [sizeLine_eq,g5.length]; exact hc.2,k σ F' _ e ?_⟩
          exact I'.mut (o':=.lst _) (u:=.lst _) qi rfl rfl h1 (g5.append (.one rv))
        · cases hres
      · cases hres
end
section
variable {X:Cx} {tg a b c o i e f:Expr} {pos pos' apos cpos p:Pos} {fd fk fx fv fa fb fc:DF→Option D}
end
theorem Room.h64 {k:Nat} {A:Around} (r:Room k A):A.units + 64 < cLine:=by have:=r.un; lia
noncomputable def bsOk (sc0 scope:Scope):Bool:=scope.kind == .function&&(scope.names.map (·.1)).Nodup&&(scope.names.all fun x=>x.2 != .free||(sc0.names.lookup x.1 == some .cell||sc0.names.lookup x.1 == some .free))
theorem bs_mk {X:Cx} {scope:Scope} (sc0:Scope) (e:X.env.scope=sc0) (h:bsOk sc0 scope=true):BlkScope X scope:=by
  unfold bsOk at h
  simp only [Bool.and_eq_true,decide_eq_true_eq] at h
  obtain ⟨⟨h1,h2⟩,h3⟩:=h
  refine ⟨by simpa using h1,h2,fun x hx hk=>?_⟩
  have:=List.all_eq_true.mp h3 x hx
  rw [hk] at this
  have e2:X.env.kindOf x.1=sc0.names.lookup x.1:=by show X.env.scope.names.lookup x.1=_; rw [e]
  rw [e2]
  simpa using this
noncomputable def cpOk (N0:List Str) (scope:Scope) (N:List Str) (own:Nat) (ix:List Nat):Bool:=
  decide (N.length=own + ix.length)&&(List.range ix.length).all fun i=>match N[own + i]?,ix[i]? with
    | some x,some j=>N0[j]? == some x&&scope.names.lookup x == some .free
    | _,_=>true
theorem cp_mk {X:Cx} {scope:Scope} {N:List Str} {own:Nat} {ix:List Nat} (N0:List Str) (e:X.N=N0) (h:cpOk N0 scope N own ix=true):Caps X scope N own ix:=by
  unfold cpOk at h
  rw [Bool.and_eq_true,decide_eq_true_eq] at h
  refine ⟨h.1,fun i j x h1 h2=>?_⟩
  have hi:i < ix.length:=(List.getElem?_eq_some_iff.mp h2).1
  have:=List.all_eq_true.mp h.2 i (List.mem_range.mpr hi)
  rw [h1,h2] at this
  simp only [Bool.and_eq_true,beq_iff_eq] at this
  rw [e]
  exact this
section
variable {X:Cx}
theorem pifs0:PIfs X [] (tB' X.K dYes):=fun pins s σ H Q I hh_=>by
  obtain ⟨P,F,ρ,b,hf,J,k⟩:=hh_
  cases hf
  exact pifs_nil pins s σ H Q I (k F H (Evo.refl J.toDHp))
theorem pifs1 {c:Expr} {f:DF→Option Bool} (h:PDT X c f):PIfs X [c] (tB' X.K f):=pifs_one h
end
theorem his_mk {is:List Nat} {own:Nat} (h:(is.all fun j=>decide (j < own))=true):∀ j∈is,j < own:=fun j m=>of_decide_eq_true (List.all_eq_true.mp h j m)
theorem tO_froz {K:PySem.W.Frag} {f:DF→Option OD}:∀ σ H Q,tD K (asO f) σ H Q→tO K f σ H Q:=fun σ H Q=>un7 fun P F ρ d hf I k=>by
  unfold asO at hf
  cases q:f ρ with
  | none=>rw [q] at hf; cases hf
  | some o=>
    rw [q] at hf
    cases hf
    refine ⟨P,F,ρ,o,q,I,fun a F' H' ev ho=>?_⟩
    exact k (.ref a) _ H' (ev.freeze I.toDHp (fun b=>H b=none∧F' b=none) fun _ q=>q) (ho.rep (frzH_same fun b q=>q.2) fun b u q hb=>by rw [frzH_yes q]; exact hb)
section
variable {X:Cx} {tg iter elt:Expr} {ifs:List Expr} {scope:Scope} {pos:Pos} {N:List Str} {own:Nat} {ix is:List Nat} {f:DF→Option (List D)} {st:D→DF→Option DF} {c:DF→Option Bool} {e:DF→Option D}
theorem pd_setComp {i:Nat} {y:Str} {py spos:Pos} (hN:X.N.Nodup) (hiN:X.N[i]?=some y) (hx:Loc X.env.scope y) (hcalm:X.calm=true) (b:BlkScope X scope) (cp:Caps X scope N own ix) (his:∀ j∈is,j < own) (hi:PDI X tg iter f)
    (hg:∀ s H fp pins,PDG (blk X scope N s H fp pins) tg is st) (hc:∀ s H fp pins,PIfs (blk X scope N s H fp pins) ifs (tB' X.K c)) (he:∀ s H fp pins,PDE (blk X scope N s H fp pins) elt e)
    (hnames:∀ y∈scope.names,y.2=.local→scope.names.lookup y.1=some .local)
    (hsw:swapsWith (.ListComp elt [⟨tg,iter,ifs,0⟩] scope pos) (some (.Name y py)) spos.line X.env=pure true:=by rfl)
    (hs:∀ x,foldedSetIterable iter X.env x=pure x:=by intro _; rfl)
    (hf:X.fn y=true∨X.env.scope.names.lookup y=some .local:=by first | exact .inl rfl | exact .inr rfl | assumption) :
    PD1 X (.Assign [.Name y py] (.ListComp elt [⟨tg,iter,ifs,0⟩] scope pos) spos) (dSet i (asO (asL (dComp own ix f st c e)))):=
  PS.imp (ps_setComp (g:=tG X.K is st) (tc:=tB' X.K c) (te:=tD X.K e) hcalm hN hiN hx b cp hi hg hc he hsw hnames hs hf) fun E σ H q=>tO_comp his σ H _ (tO_froz σ H _ (tAsg_v E σ H q))
end
noncomputable def mMAt (n p:Nat) (g:DF→Option RES) (o:OD) (xs:List DV) (q:OD×D):Prop:=xs.length + 1=p∧q.1.flat=true∧∀ a,∃ r,g (startD n p (.own o (some a)::xs))=some r∧endsM a q.1 q.2 r
noncomputable def mMof (n p:Nat) (g:DF→Option RES) (o:OD) (xs:List DV):Option (OD×D):=
  open Classical in if h:∃ q,mMAt n p g o xs q then some h.choose else none
theorem mMof_ok {n p:Nat} {g:DF→Option RES}:∀ a o xs o' d,mMof n p g o xs=some (o',d)→xs.length + 1=p∧o'.flat=true∧∃ r,g (startD n p (.own o (some a)::xs))=some r∧endsM a o' d r:=by
  intro a o xs o' d h
  unfold mMof at h
  split at h
  · rename_i hq
    obtain ⟨h1,h2,h3⟩:=hq.choose_spec
    rw [Option.some.inj h] at h2 h3
    exact ⟨h1,h2,h3 a⟩
  · cases h
theorem endsM_one {a:Addr} {o o':OD} {d d':D} {r:RES} (h:endsM a o d r) (h':endsM a o' d' r):(o,d)=(o',d'):=by
  cases r with
  | nx ρ=>obtain ⟨h1,h2⟩:=h; obtain ⟨h3,h4⟩:=h'; rw [h1] at h3; cases h3; rw [h2,h4]
  | rt x ρ=>obtain ⟨h1,h2⟩:=h; obtain ⟨h3,h4⟩:=h'; rw [h2] at h4; cases h4; rw [h1] at h3; cases h3; rfl
  | bk ρ=>cases h
  | ct ρ=>cases h
theorem mMof_eq {n p:Nat} {g:DF→Option RES} {o:OD} {xs:List DV} {o':OD} {d:D} (hl:xs.length + 1=p) (hf:o'.flat=true) (h:∀ a,∃ r,g (startD n p (.own o (some a)::xs))=some r∧endsM a o' d r):mMof n p g o xs=some (o',d):=by
  have hq:∃ q,mMAt n p g o xs q:=⟨(o',d),hl,hf,h⟩
  unfold mMof
  rw [dif_pos hq]
  obtain ⟨_,_,h3⟩:=hq.choose_spec
  obtain ⟨r,e,q⟩:=h3 0
  obtain ⟨r',e',q'⟩:=h 0
  rw [e'] at e
  cases e
  exact congrArg some (endsM_one q q')
section
variable {X:Cx} {pins:List (Addr×Obj)} {σ:List (Option V)} {H:Hp} {s:Shared} {h':Heap}
theorem Inv.turnedL {t':Nat} {fp:List Addr} (I:Inv X pins σ H s) (k:∀ b o,b∉fp→s.heap.get? b=some o→h'.get? b=some o) (hf:∀ b∈fp,FpOk X pins H b):Inv X pins σ H { s with heap:=h',toks:=t' }:=by
  have nit:∀ b u,H b=some u→b∉fp:=fun b u e z=>by rw [(hf b z).1] at e; cases e
  refine I.step (g':=s.gens) (d':=s.drawn) (ch:=fp) (fun b hb=>?_) (fun b o _ _ hc e _=>k b o hc e) (fun b o _ _ hc e _=>⟨o.slots,k b o hc e⟩) (fun _ _ _ _ n=>n)
    (fun b o hc e=>⟨o,k b o hc e⟩) (fun _ _ e=>e) (fun _ _ _ e=>e) (fun b ps e=>⟨#[],by rw [e]; simp⟩) (fun m hm=>?_) (fun b u e=>?_) I.bare
  · obtain ⟨_,hL,_,h1,h2,h3⟩:=hf b hb
    exact ⟨h1,hL,h2,h3⟩
  · obtain ⟨o,es,ep,ho,r⟩:=hm
    exact ⟨o,es,ep,k _ o (fun z=>(hf _ z).2.1 rfl) ho,r⟩
  · refine (I.hok b u e).stay (fun c v hc q=>k c v ?_ q) (fun _ q=>q) fun _ _ q=>q
    rcases hc with z | z
    · rw [z]; exact nit b u e
    · exact nit c _ z
theorem Inv.turnedLaid {t':Nat} {fp:List Addr} {a:Addr} {o:HO} (I:Inv X pins σ H s) (k:∀ b o,b∉fp→s.heap.get? b=some o→h'.get? b=some o) (hf:∀ b∈fp,FpOk X pins H b) (hp:s.heap.objs.size≤a) (new:ObjOk X.prog X.w (upd H a o) h' a o) :
    Inv X pins σ (upd H a o) { s with heap:=h',toks:=t' }:=by
  have hn:H a=none:=I.hok.fresh hp
  have nit:∀ b u,H b=some u→b∉fp:=fun b u e z=>by rw [(hf b z).1] at e; cases e
  have ne1:∀ b u,s.heap.get? b=some u→b≠a:=fun b u q=>Nat.ne_of_lt (Nat.lt_of_lt_of_le (Heap.lt_size q) hp)
  refine I.step (g':=s.gens) (d':=s.drawn) (ch:=fp) (fun b hb=>?_) (fun b o _ _ hc e _=>k b o hc e) (fun b o _ _ hc e _=>⟨o.slots,k b o hc e⟩) (fun b u _ q n=>by rw [upd_ne (ne1 b u q)]; exact n)
    (fun b o hc e=>⟨o,k b o hc e⟩) (fun b xs e=>by rw [upd_ne (ne_of_none e hn)]; exact e) (fun b _ _ e=>by rw [upd_ne (ne_of_none e hn)]; exact e) (fun b ps e=>⟨#[],by rw [upd_ne (ne_of_none e hn),e]; simp⟩) (fun m hm=>?_) (fun b u e=>?_) I.bare
  · obtain ⟨_,hL,_,h1,h2,h3⟩:=hf b hb
    exact ⟨h1,hL,h2,h3⟩
  · obtain ⟨o,es,ep,ho,r⟩:=hm
    exact ⟨o,es,ep,k _ o (fun z=>(hf _ z).2.1 rfl) ho,r⟩
  · by_cases hb:b=a
    · subst hb; rw [upd_same] at e; cases e; exact new
    · rw [upd_ne hb] at e
      refine (I.hok b u e).stay (fun c v hc q=>k c v ?_ q) (fun c q=>by rw [upd_ne (ne_of_none q hn)]; exact q) fun c xs q=>by rw [upd_ne (ne_of_none q hn)]; exact q
      rcases hc with z | z
      · rw [z]; exact nit b u e
      · exact nit c _ z
end
noncomputable def Ite (K:PySem.W.Frag) (a:Addr):It:=
  ⟨fun i H=>∃ xs x,SqL K H a xs∧xs[i]?=some x,fun i H x H'=>∃ p v,H p=none∧x=.ref p∧H'=upd H p (.tup [.int (i:Nat),v])∧∀ xs,SqL K H a xs→xs[i]?=some v,fun i H=>∃ xs,SqL K H a xs∧xs.length≤i⟩
theorem turn_enum {P:Program} {w:World} {K:PySem.W.Frag} {elts:List Expr} {kk:Nat} {pos:Pos} (a e it:Addr) (hne:e≠it):Turn P w K (.Tuple elts kk pos) (Ite K a) [e,it] e (fun i h=>(∃ old,IsEnum h e it i old)∧h.IsListIter it a i) where
  mem:=by simp
  obj:=fun i h st b hb=>by
    obtain ⟨⟨old,he⟩,o,eo,c,d⟩:=st
    have hb':b=e∨b=it:=by simpa using hb
    rcases hb' with rfl | rfl
    · exact ⟨_,he,fun v z=>by cases z⟩
    · exact ⟨o,eo,fun v z=>by rw [d] at z; cases z⟩
  keep:=fun i h h' st k=>by
    obtain ⟨⟨old,he⟩,hit⟩:=st
    exact ⟨⟨old,k e (by simp) _ he⟩,hit.at fun o x=>k it (by simp) o x⟩
  item:=by
    intro X hP hw hK hc i pins s σ H E I hf st hg
    subst hP hw hK
    obtain ⟨⟨old,he⟩,hit⟩:=st
    obtain ⟨xs,x,hq,hx⟩:=hg
    obtain ⟨its,rv,p,hz⟩:=I.list hq
    obtain ⟨u,hu,ru⟩:=rv.get hx
    refine wpAny_pyNext_enum_item he hit p.isList (x:=u) (by simpa using hu) hne fun h' ho hit' hT hsz hk=>?_
    refine ⟨_,rfl,wpAny_letOwnedTupleGo_enum ho fun h2 he2 hs2=>?_⟩
    have kk2:∀ b o,b∉[e,it]→s.heap.get? b=some o→h2.get? b=some o:=fun b o hb q=>by
      have hb1:b≠e:=fun z=>hb (by simp [z])
      have hb2:b≠it:=fun z=>hb (by simp [z])
      exact (hs2.2 b hb1).trans (hk b o hb1 hb2 q)
    have helt:e < s.heap.objs.size:=Heap.lt_size he
    have hilt:it < s.heap.objs.size:=by obtain ⟨_,x,_⟩:=hit; exact Heap.lt_size x
    have hTe:s.heap.objs.size≠e:=Nat.ne_of_gt helt
    have hT2:h2.get? s.heap.objs.size=some { cls:=.type "tuple",data:=.seq #[.int i s.toks,u] }:=(hs2.2 _ hTe).trans hT
    have I2:Inv X pins σ (upd H s.heap.objs.size (.tup [.int (i:Nat),x])) { s with heap:=h2,toks:=s.toks + 1 }:=
      I.turnedLaid (t':=s.toks + 1) kk2 hf (Nat.le_refl _) ⟨show 2≤sizeLine by decide,[.int i s.toks,u],.cons ⟨_,rfl⟩ (.cons ru .nil),⟨_,hT2,rfl,_,rfl⟩⟩
    have hn:H s.heap.objs.size=none:=I.hok.fresh (Nat.le_refl _)
    refine ⟨.ref s.heap.objs.size,_,I2,rfl,⟨_,x,hn,rfl,rfl,fun ys hy=>by rw [I.list_inj hy hq]; exact hx⟩,⟨⟨_,by simpa using he2⟩,hit'.at fun o q=>(hs2.2 it (Ne.symm hne)).trans q⟩,fun b hb=>?_⟩
    have hb':b=e∨b=it:=by simpa using hb
    rw [upd_ne (by rcases hb' with rfl | rfl; exact Nat.ne_of_lt helt; exact Nat.ne_of_lt hilt)]
    exact (hf b hb).1
  done:=by
    intro X hP hw hK hc i pins s σ H E I hf st hg
    subst hP hw hK
    obtain ⟨⟨old,he⟩,hit⟩:=st
    obtain ⟨xs,hq,hx⟩:=hg
    obtain ⟨its,rv,p,hz⟩:=I.list hq
    have hl:=rv.length
    exact wpAny_pyNext_enum_end (I.ok.hd hc) he hit p.isList (by simp; lia) fun h' eb=>⟨rfl,I.turnedL (t':=s.toks) (fun b o hb q=>eb b o (fun z=>hb (by simp [z])) q) hf⟩
  self:=fun _ _ _ _ _ st h=>by
    obtain ⟨⟨old,he⟩,_⟩:=st
    exact wpAny_pyIter_enum he h
section
variable {X:Cx} {l:Expr} {elts:List Expr} {kk:Nat} {tpos pos p:Pos}
noncomputable def iEnum (K:PySem.W.Frag) (ta:TA):TI:=fun σ H R=>ta σ H fun vs H1=>∃ a,vs=[.ref a]∧(∃ xs,SqL K H1 a xs)∧R (Ite K a) H1
theorem boot_enumerate:bootBuiltins "enumerate"=some (.type "enumerate"):=by rfl
theorem pi_enum {ta:TA} (hg:Gl X "enumerate") (hm:X.mg "enumerate"=none) (ha:PA X [l] ta) (hs:starEach [l] X.env=[(false,eval l X.env)]:=by rfl):PI X (.Tuple elts kk tpos) (.Call (.Name "enumerate" p) [l] [] pos) (iEnum X.K ta):=by
  intro pins s σ H R I h
  refine Call_ (ld_blt I hg hm boot_enumerate (PyProof.Rows.callWith_type1 (thn (ha pos pins s σ H _ I h) fun us s1 ⟨vs,H1,I1,r1,q1⟩=>?_) hs rfl))
  obtain ⟨a,e,⟨xs,hq⟩,q⟩:=q1
  subst e
  obtain ⟨u,rfl,rx⟩:=vals1 r1
  cases (show u=Value.ref a from rx)
  obtain ⟨its,rv,pl,hz⟩:=I1.list hq
  refine call_enumerate_list pl.isList fun h' he hit hsz kp=>?_
  have I2:Inv X pins σ H1 { s1 with heap:=h' }:=I1.kept (t':=s1.toks) kp
  refine wpAny_pyIter_enum he ?_
  refine ⟨s1.heap.objs.size + 1,[s1.heap.objs.size + 1,s1.heap.objs.size],_,_,H1,rfl,I2,turn_enum a _ _ (Nat.ne_of_gt (Nat.lt_succ_self _)),⟨⟨_,he⟩,hit⟩,fun b hb=>?_,q⟩
  have hb':b=s1.heap.objs.size + 1∨b=s1.heap.objs.size:=by simpa using hb
  rcases hb' with rfl | rfl
  · exact I1.fpOk (Nat.le_succ _) (I1.hok.fresh (Nat.le_succ _))
  · exact I1.fpOk (Nat.le_refl _) (I1.hok.fresh (Nat.le_refl _))
noncomputable def enumL (ds:List D):List D:=ds.zipIdx.map fun x=>.tup [.int (x.2:Int),x.1]
noncomputable def enumOf (f:DF→Option D):DF→Option (List D):=fun ρ=>match f ρ with
  | some (.lst ds)=>some (enumL ds)
  | _=>none
theorem enumL_get {ds:List D} {i:Nat} {d:D} (h:(enumL ds)[i]?=some d):∃ d0,ds[i]?=some d0∧d=.tup [.int (i:Int),d0]:=by
  unfold enumL at h
  rw [List.getElem?_map,List.getElem?_zipIdx] at h
  cases q:ds[i]? with
  | none=>rw [q] at h; cases h
  | some d0=>rw [q] at h; cases h; exact ⟨d0,rfl,by simp⟩
theorem itOk_enum {K:PySem.W.Frag} {P F:Hp} {a:Addr} {vs:List V} {ds:List D} (h:SqL K F a vs) (r:Reps K F vs ds):ItOk K P (Ite K a) F (enumL ds):=by
  intro F' H' e hp i
  have hv:SqL K H' a vs:=hp.sub.seq (e.seq h)
  refine ⟨fun d hd=>?_,fun hl=>⟨vs,hv,by rw [r.length]; simpa [enumL] using hl⟩⟩
  obtain ⟨d0,hd0,rfl⟩:=enumL_get hd
  obtain ⟨v,h1,h2⟩:=r.get hd0
  refine ⟨⟨vs,v,hv,h1⟩,fun x H2 hy=>?_⟩
  obtain ⟨q,v',hn,rfl,rfl,hx⟩:=hy
  have:=hx vs hv
  rw [h1] at this
  cases this
  have ev:=Evo.laid hp (o:=.tup [.int (i:Nat),v]) hn
  exact ⟨_,ev,.tup upd_same (.cons .int (.cons ((h2.same e).same ev.ext) .nil))⟩
theorem pdi_enum {f:DF→Option D} (hg:Gl X "enumerate") (hm:X.mg "enumerate"=none) (h:PDE X l f) (hs:starEach [l] X.env=[(false,eval l X.env)]:=by rfl):PDI X (.Tuple elts kk tpos) (.Call (.Name "enumerate" p) [l] [] pos) (enumOf f):=PI.imp (pi_enum hg hm (pa_cons h pa_nil hs) hs) fun σ H R ⟨P,F,ρ,ds,hf,I,k⟩=>by
  unfold enumOf at hf
  split at hf
  · rename_i ds0 q
    cases hf
    refine ⟨P,F,ρ,_,q,I,fun v F' H' ev rv=>?_⟩
    cases rv with
    | lst h1 h2=>exact ⟨_,rfl,⟨_,ev.hp.sub.seq h1⟩,k _ F' H' ev (itOk_enum h1 h2)⟩
  · cases hf
end
noncomputable def repS (x:Str) (n:Int):Str:=if n < 1 then Str.empty else if (n == 1||x.length == 0)=true then x else ⟨(List.replicate n.toNat x.cps).foldl (·++·) #[]⟩
noncomputable def mulS:D→D→Option D
  | .str x,.int n=>if -(2 ^ 62)≤n∧n < 1000∧x.length≤1000 then some (.str (repS x n)) else none
  | _,_=>none
noncomputable def rMulS:R2:=fun x y H Q=>∃ z n,x=.str z∧y=.int n∧(-(2 ^ 62)≤n∧n < 1000∧z.length≤1000)∧Q (.str (repS z n)) H
theorem rep_size (c:Array Nat):∀ (k:Nat) (acc:Array Nat),((List.replicate k c).foldl (·++·) acc).size=acc.size + k * c.size
  | 0,acc=>by simp
  | k + 1,acc=>by
    rw [List.replicate_succ,List.foldl_cons,rep_size c k,Array.size_append,Nat.succ_mul]
    lia
section
variable {X:Cx} {a b:Expr} {pos:Pos} {fa fb:DF→Option D}
theorem op_mulS:OpR X (binaryOp .Mult) rMulS:=by
  intro pins s σ H x y v u Q I rx ry h
  obtain ⟨z,n,rfl,rfl,⟨b1,b2,b3⟩,q⟩:=h
  obtain ⟨t,rfl⟩:=rx
  obtain ⟨t',rfl⟩:=ry
  refine PySem.P.mul_str (by rw [decide_eq_false (show ¬ n < -(2 ^ 63:Int) by lia),decide_eq_false (show ¬ n ≥ 2 ^ 63 by lia)]; rfl) (fun h1 _=>?_) (fun h1 _=>?_) ?_
  · have h3:1000≤(2 ^ 63 - 1:Int) / n:=Int.le_ediv_of_mul_le (by lia) (by lia)
    have h4:(z.length:Int)≤1000:=Int.ofNat_le.mpr b3
    lia
  · have h3:z.length * n.toNat≤1000 * 1000:=Nat.mul_le_mul b3 (by lia)
    show decide (z.length * n.toNat > sizeLine)=false
    rw [decide_eq_false_iff_not,sizeLine_eq]
    lia
  · unfold repS at q
    split
    · rename_i h1
      rw [if_pos h1] at q
      exact ⟨by decide,⟨.str Str.empty,H,I.tok _,⟨_,rfl⟩,q⟩⟩
    · rename_i h1
      rw [if_neg h1] at q
      split
      · rename_i h2
        rw [if_pos h2] at q
        exact ⟨.str z,H,I,⟨_,rfl⟩,q⟩
      · rename_i h2
        rw [if_neg h2] at q
        refine ⟨?_,⟨.str _,H,I.tok _,⟨_,rfl⟩,q⟩⟩
        show ((List.replicate n.toNat z.cps).foldl (·++·) #[]).size≤sizeLine
        rw [rep_size,sizeLine_eq]
        have h3:n.toNat * z.cps.size≤1000 * 1000:=Nat.mul_le_mul (by lia) b3
        show 0 + n.toNat * z.cps.size≤_
        lia
theorem od_mulS {K:PySem.W.Frag}:OpD2 K rMulS mulS:=by
  intro P F H ρ σ x y dx dy d Q hf I rx ry k
  unfold mulS at hf
  split at hf
  · rename_i z n
    split at hf
    · rename_i hb
      cases hf
      exact ⟨z,n,rep_str rx,rep_int ry,hb,k _ F H (Evo.refl I.toDHp) .str⟩
    · cases hf
  · cases hf
theorem pd_mulS (ha:PDR X a fa) (hb:PDR X b fb):PDE X (.BinOp a .Mult b pos) (d2 mulS fa fb):=pd_bin op_mulS od_mulS ha hb
end
end L2
namespace L2
open PySem PySem.SetTable
structure Rising (xs:Array Nat):Prop where
  lt:∀ i j (hi:i < xs.size) (hj:j < xs.size),i < j→xs[i] < xs[j]
theorem below_go {xs:Array Nat} {j:Nat} (r:Rising xs):∀ (f lo hi:Nat),lo≤hi→hi≤xs.size→hi - lo≤f→(∀ i (h:i < xs.size),i < lo→xs[i] < j)→(∀ i (h:i < xs.size),hi≤i→j≤xs[i])→
    ∃ k,below.go xs j f lo hi=k∧k≤xs.size∧(∀ i (h:i < xs.size),i < k→xs[i] < j)∧∀ i (h:i < xs.size),k≤i→j≤xs[i]
  | 0,lo,hi,h1,h2,h3,h4,h5=>by
    have e:lo=hi:=by lia
    subst e
    exact ⟨lo,rfl,h2,h4,h5⟩
  | f + 1,lo,hi,h1,h2,h3,h4,h5=>by
    unfold below.go
    by_cases hlt:lo < hi
    · rw [if_pos hlt]
      have hm:(lo + hi) / 2 < xs.size:=by lia
      have eg:xs.getD ((lo + hi) / 2) j=xs[(lo + hi) / 2]:=by simp [Array.getD,hm]
      dsimp only
      rw [eg]
      by_cases hc:xs[(lo + hi) / 2] < j
      · rw [if_pos hc]
        refine below_go r f _ _ (by lia) h2 (by lia) (fun i h hi'=>?_) h5
        by_cases e:i=(lo + hi) / 2
        · subst e; exact hc
        · exact Nat.lt_trans (r.lt i _ h hm (by lia)) hc
      · rw [if_neg hc]
        refine below_go r f _ _ (by lia) (by lia) (by lia) h4 (fun i h hi'=>?_)
        by_cases e:i=(lo + hi) / 2
        · subst e; lia
        · exact Nat.le_trans (by lia) (Nat.le_of_lt (r.lt _ i hm h (by lia)))
    · rw [if_neg hlt]
      have e:lo=hi:=by lia
      subst e
      exact ⟨lo,rfl,h2,h4,h5⟩
theorem below_ok {xs:Array Nat} (r:Rising xs) (j:Nat):below xs j≤xs.size∧(∀ i (h:i < xs.size),i < below xs j→xs[i] < j)∧∀ i (h:i < xs.size),below xs j≤i→j≤xs[i]:=by
  obtain ⟨k,h1,h2,h3,h4⟩:=below_go (j:=j) r xs.size 0 xs.size (Nat.zero_le _) (Nat.le_refl _) (by lia) (fun i h z=>by lia) (fun i h z=>by lia)
  have e:below xs j=k:=h1
  rw [e]
  exact ⟨h2,h3,h4⟩
theorem below_at {xs:Array Nat} (r:Rising xs) {i:Nat} (h:i < xs.size):below xs xs[i]=i:=by
  obtain ⟨h1,h2,h3⟩:=below_ok r xs[i]
  apply Nat.le_antisymm
  · rcases Nat.lt_or_ge i (below xs xs[i]) with q | q
    · exact absurd (h2 i h q) (Nat.lt_irrefl _)
    · exact q
  · rcases Nat.lt_or_ge (below xs xs[i]) i with q | q
    · have hb:below xs xs[i] < xs.size:=by lia
      have:=r.lt _ i hb h q
      have:=h3 _ hb (Nat.le_refl _)
      lia
    · exact q
theorem slot_live {t:SetTable} (r:Rising t.place) {i j:Nat} (h:t.place[i]?=some j):t.slot j=.live i:=by
  obtain ⟨hi,e⟩:=Array.getElem?_eq_some_iff.mp h
  unfold slot
  have eb:below t.place j=i:=by rw [← e]; exact below_at r hi
  dsimp only
  rw [eb,h]
  simp
theorem slot_empty {t:SetTable} (r:Rising t.place) (hd:t.dummies=#[]) {j:Nat} (h:j∉t.place):t.slot j=.empty:=by
  unfold slot
  dsimp only
  have hn:(t.place[below t.place j]? == some j)=false:=by
    cases q:t.place[below t.place j]? with
    | none=>rfl
    | some k=>
      have:k≠j:=fun z=>by subst z; exact h (Array.mem_of_getElem? q)
      simpa using this
  rw [hn]
  simp only [Bool.false_eq_true,if_false]
  have:has t.dummies j=false:=by
    unfold has
    rw [hd]
    simp
  rw [this]
  simp
noncomputable def advM (mask:Nat) (p:Probe):Probe:=
  if p.more > 0 then { p with j:=p.j + 1,more:=p.more - 1 } else
  let (i,perturb):=leap mask p.i p.perturb
  { p with j:=i,more:=runEnd mask i - i,i,perturb }
noncomputable def startM (mask:Nat) (h:Int):Probe:=
  let i:=bits h % (mask + 1)
  { j:=i,more:=runEnd mask i - i,i,perturb:=bits h,dummy:=none }
noncomputable def stand (mask:Nat) (p:Probe):Nat→Probe
  | 0=>p
  | n + 1=>advM mask (stand mask p n)
noncomputable def at_ (mask:Nat) (h:Int) (n:Nat):Nat:=(stand mask (startM mask h) n).j
theorem stand_add (mask:Nat) (p:Probe) (m:Nat):∀ n,stand mask p (m + n)=stand mask (stand mask p m) n
  | 0=>rfl
  | n + 1=>by show advM mask (stand mask p (m + n))=_; rw [stand_add mask p m n]; rfl
theorem stand_dummy (mask:Nat) (p:Probe):∀ n,(stand mask p n).dummy=p.dummy
  | 0=>rfl
  | n + 1=>by
    show (advM mask (stand mask p n)).dummy=_
    unfold advM
    split
    · exact stand_dummy mask p n
    · exact stand_dummy mask p n
theorem stand_run (mask:Nat) (p:Probe):∀ n,n≤p.more→stand mask p n={ p with j:=p.j + n,more:=p.more - n }
  | 0,_=>rfl
  | n + 1,h=>by
    show advM mask (stand mask p n)=_
    rw [stand_run mask p n (by lia)]
    unfold advM
    have:(p.more - n) > 0:=by lia
    rw [if_pos (show ({ p with j:=p.j + n,more:=p.more - n }:Probe).more > 0 from this)]
    simp only [Probe.mk.injEq,and_true,true_and]
    lia
noncomputable def runAt (mask:Nat) (i perturb:Nat):Nat→Nat×Nat
  | 0=>(i,perturb)
  | k + 1=>let (i',p'):=runAt mask i perturb k; leap mask i' p'
noncomputable def runProbe (mask:Nat) (i perturb:Nat) (d:Option Nat):Probe:={ j:=i,more:=runEnd mask i - i,i,perturb,dummy:=d }
theorem run_more (mask i:Nat):runEnd mask i - i≤9:=by
  unfold runEnd
  split <;> lia
theorem leap_step (mask i pt:Nat) (d:Option Nat):stand mask (runProbe mask i pt d) (runEnd mask i - i + 1)=runProbe mask (leap mask i pt).1 (leap mask i pt).2 d:=by
  show advM mask (stand mask (runProbe mask i pt d) (runEnd mask i - i))=_
  rw [stand_run mask (runProbe mask i pt d) (runEnd mask i - i) (Nat.le_refl _)]
  unfold advM
  rw [if_neg (by show ¬ (runEnd mask i - i - (runEnd mask i - i) > 0); lia)]
  rfl
theorem stand_runAt (mask i pt:Nat) (d:Option Nat):∀ k,∃ n,n≤10 * k∧stand mask (runProbe mask i pt d) n=runProbe mask (runAt mask i pt k).1 (runAt mask i pt k).2 d
  | 0=>⟨0,Nat.le_refl _,rfl⟩
  | k + 1=>by
    obtain ⟨n,h1,h2⟩:=stand_runAt mask i pt d k
    refine ⟨n + (runEnd mask (runAt mask i pt k).1 - (runAt mask i pt k).1 + 1),?_,?_⟩
    · have:=run_more mask (runAt mask i pt k).1
      lia
    · rw [stand_add,h2,leap_step]
      rfl
noncomputable def lcg (m:Nat) (i:Nat):Nat→Nat
  | 0=>i
  | k + 1=>(lcg m i k * 5 + 1) % m
theorem lcg_add (m i a:Nat):∀ b,lcg m i (a + b)=lcg m (lcg m i a) b
  | 0=>rfl
  | b + 1=>by show (lcg m i (a + b) * 5 + 1) % m=_; rw [lcg_add m i a b]; rfl
noncomputable def Full (m:Nat):Prop:=(∀ j,j < m→∃ k,k < m∧lcg m 0 k=j)∧lcg m 0 m=0
theorem lcg_any {m:Nat} (hm:0 < m) (F:Full m) {i j:Nat} (hi:i < m) (hj:j < m):∃ k,k < m∧lcg m i k=j:=by
  obtain ⟨a,ha,ea⟩:=F.1 i hi
  obtain ⟨b,hb,eb⟩:=F.1 j hj
  by_cases h:a≤b
  · refine ⟨b - a,by lia,?_⟩
    rw [← ea,← lcg_add,show a + (b - a)=b by lia,eb]
  · refine ⟨m - a + b,by lia,?_⟩
    rw [← ea,← lcg_add,show a + (m - a + b)=m + b by lia,lcg_add,F.2,eb]
noncomputable def lcgL (m:Nat):Nat→Nat→List Nat
  | 0,_=>[]
  | n + 1,i=>i::lcgL m n ((i * 5 + 1) % m)
theorem lcgL_get (m:Nat):∀ (n i k:Nat),k < n→(lcgL m n i)[k]?=some (lcg m i k)
  | 0,_,_,h=>by lia
  | n + 1,i,0,_=>rfl
  | n + 1,i,k + 1,h=>by
    show (lcgL m n ((i * 5 + 1) % m))[k]?=_
    rw [lcgL_get m n _ k (by lia)]
    rw [show k + 1=1 + k by lia,lcg_add]
    rfl
theorem full_of (m:Nat) (h:((List.range m).all fun j=>(lcgL m m 0).contains j)=true) (h0:(lcgL m (m + 1) 0)[m]?=some 0):Full m:=by
  refine ⟨fun j hj=>?_,?_⟩
  · have hc:=List.all_eq_true.mp h j (List.mem_range.mpr hj)
    have hm:j∈lcgL m m 0:=by simpa using hc
    obtain ⟨k,hk,e⟩:=List.getElem_of_mem hm
    have hl:∀ n i,(lcgL m n i).length=n:=by
      intro n
      induction n with
      | zero=>intro i; rfl
      | succ n ih=>intro i; show (lcgL m n _).length + 1=n + 1; rw [ih]
    have hk':k < m:=by rw [hl] at hk; exact hk
    refine ⟨k,hk',?_⟩
    have:=lcgL_get m m 0 k hk'
    rw [List.getElem?_eq_getElem hk,e] at this
    exact (Option.some.inj this).symm
  · rw [lcgL_get m (m + 1) 0 m (by lia)] at h0
    exact Option.some.inj h0
theorem full8:Full 8:=full_of 8 (by decide) (by decide)
theorem full32:Full 32:=full_of 32 (by decide +kernel) (by decide +kernel)
theorem full128:Full 128:=full_of 128 (by decide +kernel) (by decide +kernel)
theorem runAt_pt (mask i pt:Nat):∀ k,(runAt mask i pt k).2=pt / 32 ^ k
  | 0=>by simp [runAt]
  | k + 1=>by
    show (runAt mask i pt k).2 / 32=_
    rw [runAt_pt mask i pt k,Nat.div_div_eq_div_mul,Nat.pow_succ]
theorem runAt_lcg (mask i pt:Nat) (a:Nat) (h:pt / 32 ^ (a + 1)=0):∀ k,(runAt mask i pt (a + k)).1=lcg (mask + 1) (runAt mask i pt a).1 k
  | 0=>rfl
  | k + 1=>by
    show (leap mask (runAt mask i pt (a + k)).1 (runAt mask i pt (a + k)).2).1=_
    unfold leap
    rw [runAt_pt,runAt_lcg mask i pt a h k]
    have:pt / 32 ^ (a + k) / 32=0:=by
      rw [Nat.div_div_eq_div_mul,← Nat.pow_succ]
      have h1:32 ^ (a + 1)≤32 ^ (a + k + 1):=Nat.pow_le_pow_right (by lia) (by lia)
      have h2:pt < 32 ^ (a + 1):=by
        rcases Nat.lt_or_ge pt (32 ^ (a + 1)) with q | q
        · exact q
        · have:=Nat.div_pos q (Nat.pow_pos (by lia:0 < 32))
          lia
      exact Nat.div_eq_of_lt (Nat.lt_of_lt_of_le h2 h1)
    rw [this]
    rfl
theorem runAt_lt (mask i pt:Nat) (h:i < mask + 1):∀ k,(runAt mask i pt k).1 < mask + 1
  | 0=>h
  | k + 1=>Nat.mod_lt _ (Nat.succ_pos _)
theorem bits_lt (h:Int):bits h < 2 ^ 64:=by
  unfold bits
  have h1:=Int.emod_nonneg h (by decide:(2 ^ 64:Int)≠0)
  have h2:=Int.emod_lt_of_pos h (by decide:(0:Int) < 2 ^ 64)
  lia
theorem startM_run (mask:Nat) (h:Int):startM mask h=runProbe mask (bits h % (mask + 1)) (bits h) none:=rfl
theorem coversRun {mask:Nat} (F:Full (mask + 1)) (h:Int) {j:Nat} (hj:j≤mask):∃ k,k < turns mask∧(runAt mask (bits h % (mask + 1)) (bits h) k).1=j:=by
  have hz:bits h / 32 ^ (12 + 1)=0:=Nat.div_eq_of_lt (Nat.lt_of_lt_of_le (bits_lt h) (by decide))
  have hi:bits h % (mask + 1) < mask + 1:=Nat.mod_lt _ (Nat.succ_pos _)
  obtain ⟨k,hk,ek⟩:=lcg_any (Nat.succ_pos mask) F (runAt_lt mask _ (bits h) hi 12) (show j < mask + 1 by lia)
  have e:=runAt_lcg mask (bits h % (mask + 1)) (bits h) 12 hz k
  rw [ek] at e
  exact ⟨12 + k,by unfold turns; lia,e⟩
theorem covers {mask:Nat} (F:Full (mask + 1)) (h:Int) {j:Nat} (hj:j≤mask):∃ n,n < 10 * turns mask∧at_ mask h n=j:=by
  have hz:bits h / 32 ^ (12 + 1)=0:=Nat.div_eq_of_lt (Nat.lt_of_lt_of_le (bits_lt h) (by decide))
  have hi:bits h % (mask + 1) < mask + 1:=Nat.mod_lt _ (Nat.succ_pos _)
  obtain ⟨k,hk,ek⟩:=lcg_any (Nat.succ_pos mask) F (runAt_lt mask _ (bits h) hi 12) (show j < mask + 1 by lia)
  have e:=runAt_lcg mask (bits h % (mask + 1)) (bits h) 12 hz k
  rw [ek] at e
  obtain ⟨n,hn,es⟩:=stand_runAt mask (bits h % (mask + 1)) (bits h) none (12 + k)
  refine ⟨n,?_,?_⟩
  · unfold turns; lia
  · unfold at_
    rw [startM_run,es,e]
    rfl
structure TabOk (hs:Nat→Int) (t:SetTable):Prop where
  rise:Rising t.place
  nod:t.dummies=#[]
  bd:∀ j,j∈t.place→j≤t.mask
  odd:t.mask % 2=1
  full:Full (t.mask + 1)
  room:t.place.size≤t.mask
  reach:∀ i j,t.place[i]?=some j→∃ n,n < 10 * turns t.mask∧at_ t.mask (hs i) n=j∧∀ m,m < n→at_ t.mask (hs i) m∈t.place
theorem TabOk.fits {hs:Nat→Int} {t:SetTable} (k:TabOk hs t) {n:Nat} (h:t.place.size=n):t.fits n=true:=by
  unfold SetTable.fits fill
  rw [k.nod]
  have:=k.room
  simp [h]
  lia
theorem TabOk.gave {hs:Nat→Int} {t:SetTable} (k:TabOk hs t):t.gaveWay=false:=by
  unfold SetTable.gaveWay
  rw [k.odd]
  rfl
theorem pigeon:∀ (l m:List Nat),l.Nodup→(∀ x∈l,x∈m)→l.length≤m.length
  | [],_,_,_=>Nat.zero_le _
  | x::l,m,nd,h=>by
    have hx:=h x List.mem_cons_self
    have hn:=List.nodup_cons.mp nd
    have:=pigeon l (m.erase x) hn.2 fun y hy=>(List.mem_erase_of_ne (fun (z:y=x)=>hn.1 (z ▸ hy))).mpr (h y (List.mem_cons_of_mem _ hy))
    rw [List.length_erase_of_mem hx] at this
    have:=List.length_pos_of_mem hx
    rw [List.length_cons]
    lia
theorem exists_empty {t:SetTable} (r:Rising t.place) (bd:∀ j,j∈t.place→j≤t.mask) (room:t.place.size≤t.mask):∃ j,j≤t.mask∧j∉t.place:=by
  apply Classical.byContradiction
  intro hn
  have hall:∀ j,j≤t.mask→j∈t.place:=fun j hj=>Classical.byContradiction fun q=>hn ⟨j,hj,q⟩
  have hsub:∀ j∈List.range (t.mask + 1),j∈t.place.toList:=fun j hj=>Array.mem_toList_iff.mpr (hall j (by have:=List.mem_range.mp hj; lia))
  have h:=pigeon (List.range (t.mask + 1)) t.place.toList List.nodup_range hsub
  rw [List.length_range,Array.length_toList] at h
  lia
theorem TabOk.empty {hs:Nat→Int} {t:SetTable} (k:TabOk hs t) (h:Int):∃ n,n < 10 * turns t.mask∧at_ t.mask h n∉t.place:=by
  obtain ⟨j,h1,h2⟩:=exists_empty k.rise k.bd k.room
  obtain ⟨n,h3,h4⟩:=covers k.full h h1
  exact ⟨n,h3,by rw [h4]; exact h2⟩
theorem probe_go {hs:Nat→Int} {t:SetTable} (k:TabOk hs t) {hashAt:Nat→Int} {h:Int} {N:Nat} (hN:at_ t.mask h N∉t.place):∀ (f n:Nat),n≤N→N - n < f→
    (∃ m,n≤m∧m≤N∧at_ t.mask h m∉t.place∧(∀ l,n≤l→l < m→∃ i,t.place[i]?=some (at_ t.mask h l)∧hashAt i≠h)∧SetTable.probe.go t hashAt h f (stand t.mask (startM t.mask h) n)=some (.empty (at_ t.mask h m) none)) ∨
    ∃ m i,n≤m∧m < N∧t.place[i]?=some (at_ t.mask h m)∧hashAt i=h∧(∀ l,n≤l→l < m→∃ i,t.place[i]?=some (at_ t.mask h l)∧hashAt i≠h)∧SetTable.probe.go t hashAt h f (stand t.mask (startM t.mask h) n)=some (.candidate (at_ t.mask h m) i (stand t.mask (startM t.mask h) (m + 1)))
  | 0,n,_,h2=>by lia
  | f + 1,n,h1,h2=>by
    by_cases hm:at_ t.mask h n∈t.place
    · obtain ⟨i,hi,e⟩:=Array.getElem_of_mem hm
      have hp:t.place[i]?=some (at_ t.mask h n):=by rw [Array.getElem?_eq_getElem hi,e]
      have hne:n≠N:=fun z=>by subst z; exact hN hm
      have hs:=slot_live k.rise hp
      by_cases hh:hashAt i=h
      · refine .inr ⟨n,i,Nat.le_refl _,by lia,hp,hh,fun l a b=>by lia,?_⟩
        unfold SetTable.probe.go
        rw [show t.slot (stand t.mask (startM t.mask h) n).j=.live i from hs]
        have hb:(hashAt i == h)=true:=by simpa using hh
        simp only [hb,if_true]
        rfl
      · have go:SetTable.probe.go t hashAt h (f + 1) (stand t.mask (startM t.mask h) n)=SetTable.probe.go t hashAt h f (stand t.mask (startM t.mask h) (n + 1)):=by
          conv=>lhs; unfold SetTable.probe.go
          rw [show t.slot (stand t.mask (startM t.mask h) n).j=.live i from hs]
          have hb:(hashAt i == h)=false:=by simpa using hh
          simp only [hb,Bool.false_eq_true,if_false]
          rfl
        have more:∀ {m},(∀ l,n + 1≤l→l < m→∃ i,t.place[i]?=some (at_ t.mask h l)∧hashAt i≠h)→∀ l,n≤l→l < m→∃ i,t.place[i]?=some (at_ t.mask h l)∧hashAt i≠h:=fun {m} q l a b=>by
          by_cases e:l=n
          · subst e; exact ⟨i,hp,hh⟩
          · exact q l (by lia) b
        rcases probe_go k hN f (n + 1) (by lia) (by lia) with ⟨m,a1,a2,a3,a4,a5⟩ | ⟨m,i',a1,a2,a3,a4,a5,a6⟩
        · exact .inl ⟨m,by lia,a2,a3,more a4,by rw [go]; exact a5⟩
        · exact .inr ⟨m,i',by lia,a2,a3,a4,more a5,by rw [go]; exact a6⟩
    · refine .inl ⟨n,Nat.le_refl _,h1,hm,fun l a b=>by lia,?_⟩
      unfold SetTable.probe.go
      rw [show t.slot (stand t.mask (startM t.mask h) n).j=.empty from slot_empty k.rise k.nod hm]
      show some (Met.empty _ (stand t.mask (startM t.mask h) n).dummy)=_
      rw [stand_dummy]
      rfl
theorem insertAt_size {α:Type} (xs:Array α) (p:Nat) (x:α) (h:p≤xs.size):(insertAt xs p x).size=xs.size + 1:=by
  unfold insertAt
  simp
  lia
theorem insertAt_get {α:Type} (xs:Array α) (p:Nat) (x:α) (h:p≤xs.size) (i:Nat):(insertAt xs p x)[i]?=if i < p then xs[i]? else if i=p then some x else xs[i - 1]?:=by
  unfold insertAt
  have hs:((xs.extract 0 p).push x).size=p + 1:=by simp; lia
  rw [Array.getElem?_append,hs]
  by_cases h1:i < p
  · rw [if_pos (by lia),if_pos h1,Array.getElem?_push,if_neg (by simp; lia),Array.getElem?_extract,if_pos (by lia)]
    simp
  · rw [if_neg h1]
    by_cases h2:i=p
    · rw [if_pos h2,if_pos (by lia),Array.getElem?_push,if_pos (by simp; lia)]
    · rw [if_neg h2,if_neg (by lia),Array.getElem?_extract]
      by_cases h3:i - (p + 1) < min xs.size xs.size - p
      · rw [if_pos h3,show p + (i - (p + 1))=i - 1 by lia]
      · rw [if_neg h3]
        symm
        rw [Array.getElem?_eq_none_iff]
        simp at h3
        lia
theorem insertAt_mem {α:Type} {xs:Array α} {p:Nat} {x y:α} (h:p≤xs.size):y∈insertAt xs p x↔y=x∨y∈xs:=by
  constructor
  · intro hy
    obtain ⟨i,hi,e⟩:=Array.getElem_of_mem hy
    have q:(insertAt xs p x)[i]?=some y:=by rw [Array.getElem?_eq_getElem hi,e]
    rw [insertAt_get xs p x h] at q
    split at q
    · exact .inr (Array.mem_of_getElem? q)
    · split at q
      · cases q; exact .inl rfl
      · exact .inr (Array.mem_of_getElem? q)
  · rintro (rfl | hy)
    · exact Array.mem_of_getElem? (i:=p) (by rw [insertAt_get xs p y h,if_neg (Nat.lt_irrefl _),if_pos rfl])
    · obtain ⟨i,hi,e⟩:=Array.getElem_of_mem hy
      have q:xs[i]?=some y:=by rw [Array.getElem?_eq_getElem hi,e]
      by_cases hp:i < p
      · exact Array.mem_of_getElem? (i:=i) (by rw [insertAt_get xs p x h,if_pos hp,q])
      · exact Array.mem_of_getElem? (i:=i + 1) (by rw [insertAt_get xs p x h,if_neg (by lia),if_neg (by lia)]; exact q)
noncomputable def hsPut (hs:Nat→Int) (p:Nat) (h:Int) (i:Nat):Int:=if i < p then hs i else if i=p then h else hs (i - 1)
theorem put_place (t:SetTable) (j:Nat):(t.put j).1.place=insertAt t.place (below t.place j) j:=rfl
theorem put_mask (t:SetTable) (j:Nat):(t.put j).1.mask=t.mask:=rfl
theorem rising_put {xs:Array Nat} (r:Rising xs) {j:Nat} (hj:j∉xs):Rising (insertAt xs (below xs j) j):=by
  obtain ⟨b1,b2,b3⟩:=below_ok r j
  constructor
  intro a b ha hb hab
  rw [insertAt_size xs _ _ b1] at ha hb
  have ga:=insertAt_get xs (below xs j) j b1 a
  have gb:=insertAt_get xs (below xs j) j b1 b
  rw [Array.getElem?_eq_getElem (by rw [insertAt_size xs _ _ b1]; exact ha)] at ga
  rw [Array.getElem?_eq_getElem (by rw [insertAt_size xs _ _ b1]; exact hb)] at gb
  have big:∀ i (h:i < xs.size),below xs j≤i→j < xs[i]:=fun i h hi=>by
    have:=b3 i h hi
    have:j≠xs[i]:=fun z=>hj (by rw [z]; exact Array.getElem_mem h)
    lia
  by_cases c1:a < below xs j
  · rw [if_pos c1,Array.getElem?_eq_getElem (by lia)] at ga
    have ga:=Option.some.inj ga
    rw [ga]
    by_cases c2:b < below xs j
    · rw [if_pos c2,Array.getElem?_eq_getElem (by lia)] at gb
      rw [Option.some.inj gb]
      exact r.lt a b (by lia) (by lia) hab
    · rw [if_neg c2] at gb
      by_cases c3:b=below xs j
      · rw [if_pos c3] at gb
        rw [Option.some.inj gb]
        exact b2 a (by lia) c1
      · rw [if_neg c3,Array.getElem?_eq_getElem (by lia)] at gb
        rw [Option.some.inj gb]
        exact r.lt a (b - 1) (by lia) (by lia) (by lia)
  · rw [if_neg c1] at ga
    rw [if_neg (by lia),if_neg (by lia),Array.getElem?_eq_getElem (by lia)] at gb
    rw [Option.some.inj gb]
    by_cases c2:a=below xs j
    · rw [if_pos c2] at ga
      rw [Option.some.inj ga]
      exact big (b - 1) (by lia) (by lia)
    · rw [if_neg c2,Array.getElem?_eq_getElem (by lia)] at ga
      rw [Option.some.inj ga]
      exact r.lt (a - 1) (b - 1) (by lia) (by lia) (by lia)
theorem TabOk.put {hs:Nat→Int} {t:SetTable} (k:TabOk hs t) {h:Int} {N:Nat} (hN:N < 10 * turns t.mask) (he:at_ t.mask h N∉t.place) (hb:∀ m,m < N→at_ t.mask h m∈t.place) (hj:at_ t.mask h N≤t.mask) (hr:t.place.size + 1≤t.mask) :
    TabOk (hsPut hs (below t.place (at_ t.mask h N)) h) (t.put (at_ t.mask h N)).1:=by
  obtain ⟨b1,b2,b3⟩:=below_ok k.rise (at_ t.mask h N)
  have mem:∀ y,y∈(t.put (at_ t.mask h N)).1.place↔y=at_ t.mask h N∨y∈t.place:=fun y=>insertAt_mem b1
  refine ⟨rising_put k.rise he,?_,fun j hm=>?_,k.odd,k.full,?_,fun i j hij=>?_⟩
  · show (if has t.dummies _ then _ else t.dummies)=#[]
    rw [k.nod]
    have:has (#[]:Array Nat) (at_ t.mask h N)=false:=by unfold has; simp
    rw [this]
    rfl
  · rcases (mem j).mp hm with rfl | q
    · exact hj
    · exact k.bd j q
  · show (insertAt t.place _ _).size≤t.mask
    rw [insertAt_size _ _ _ b1]
    exact hr
  · rw [put_place,insertAt_get _ _ _ b1] at hij
    unfold hsPut
    rw [put_mask]
    have old:∀ i',t.place[i']?=some j→∃ n,n < 10 * turns t.mask∧at_ t.mask (hs i') n=j∧∀ m,m < n→at_ t.mask (hs i') m∈(t.put (at_ t.mask h N)).1.place:=fun i' q=>by
      obtain ⟨n,a1,a2,a3⟩:=k.reach i' j q
      exact ⟨n,a1,a2,fun m hm=>(mem _).mpr (.inr (a3 m hm))⟩
    split at hij
    · rename_i c
      simp only [if_pos c]
      exact old i hij
    · rename_i c
      simp only [if_neg c]
      split at hij
      · rename_i c2
        cases hij
        simp only [if_pos c2]
        exact ⟨N,hN,rfl,fun m hm=>(mem _).mpr (.inr (hb m hm))⟩
      · rename_i c2
        simp only [if_neg c2]
        exact old (i - 1) hij
theorem runAt_shift (mask i pt:Nat):∀ k,runAt mask i pt (k + 1)=runAt mask (leap mask i pt).1 (leap mask i pt).2 k
  | 0=>rfl
  | k + 1=>by
    show leap mask (runAt mask i pt (k + 1)).1 (runAt mask i pt (k + 1)).2=_
    rw [runAt_shift mask i pt k]
    rfl
noncomputable def own (owner:Array (Option Nat)) (j:Nat):Option Nat:=owner.getD j (some 0)
theorem free_ok {mask:Nat} (owner:Array (Option Nat)):∀ (f i pt:Nat),(∃ k,k < f∧own owner (runAt mask i pt k).1=none)→
    ∃ n,n < 10 * f∧layClean.free mask owner f i pt=some (stand mask (runProbe mask i pt none) n).j∧own owner (stand mask (runProbe mask i pt none) n).j=none∧∀ m,m < n→own owner (stand mask (runProbe mask i pt none) m).j≠none
  | 0,i,pt,⟨k,hk,_⟩=>by lia
  | f + 1,i,pt,⟨k,hk,hn⟩=>by
    unfold layClean.free
    have hm:=run_more mask i
    have hle:i≤runEnd mask i:=by unfold runEnd; split <;> lia
    cases q:(List.range (runEnd mask i + 1 - i)).find? fun k=>(owner.getD (i + k) (some 0)).isNone with
    | some r=>
      have h1:=List.find?_some q
      have h2:=List.mem_range.mp (List.mem_of_find?_eq_some q)
      have e:(stand mask (runProbe mask i pt none) r).j=i + r:=by
        rw [stand_run mask (runProbe mask i pt none) r (by show r≤runEnd mask i - i; lia)]
        rfl
      refine ⟨r,by lia,by rw [e],by rw [e]; unfold own; simpa using h1,fun m hm'=>?_⟩
      have e':(stand mask (runProbe mask i pt none) m).j=i + m:=by
        rw [stand_run mask (runProbe mask i pt none) m (by show m≤runEnd mask i - i; lia)]
        rfl
      rw [e']
      intro z
      obtain ⟨_,as,bs,e1,e2⟩:=List.find?_eq_some_iff_append.mp q
      have hmem:m∈as:=by
        have hr:(List.range (runEnd mask i + 1 - i))[m]?=some m:=List.getElem?_range (by lia)
        have hlen:as.length=r:=by
          have hx:(List.range (runEnd mask i + 1 - i))[as.length]?=some r:=by rw [e1]; simp
          have hl:as.length < runEnd mask i + 1 - i:=by
            have:=congrArg List.length e1
            simp at this
            lia
          rw [List.getElem?_range hl] at hx
          exact Option.some.inj hx
        rw [e1,List.getElem?_append_left (by lia)] at hr
        exact List.mem_of_getElem? hr
      have:=e2 m hmem
      unfold own at z
      rw [z] at this
      simp at this
    | none=>
      have hall:=List.find?_eq_none.mp q
      have run:∀ m,m≤runEnd mask i - i→(stand mask (runProbe mask i pt none) m).j=i + m∧own owner (i + m)≠none:=fun m hm'=>by
        refine ⟨?_,fun z=>?_⟩
        · rw [stand_run mask (runProbe mask i pt none) m (by show m≤runEnd mask i - i; lia)]
          rfl
        · have:=hall m (List.mem_range.mpr (by lia))
          unfold own at z
          rw [z] at this
          simp at this
      cases k with
      | zero=>exact absurd (show own owner i=none from hn) (by have:=(run 0 (Nat.zero_le _)).2; simpa using this)
      | succ k=>
        rw [runAt_shift] at hn
        obtain ⟨n,a1,a2,a3,a4⟩:=free_ok owner f (leap mask i pt).1 (leap mask i pt).2 ⟨k,by lia,hn⟩
        have sh:∀ m,stand mask (runProbe mask i pt none) (runEnd mask i - i + 1 + m)=stand mask (runProbe mask (leap mask i pt).1 (leap mask i pt).2 none) m:=fun m=>by
          rw [stand_add,leap_step]
        refine ⟨runEnd mask i - i + 1 + n,by lia,by rw [sh]; exact a2,by rw [sh]; exact a3,fun m hm'=>?_⟩
        by_cases c:m≤runEnd mask i - i
        · rw [(run m c).1]; exact (run m c).2
        · have:m=runEnd mask i - i + 1 + (m - (runEnd mask i - i + 1)):=by lia
          rw [this,sh]
          exact a4 _ (by lia)
theorem runEnd_le {mask i:Nat} (h:i≤mask):runEnd mask i≤mask:=by unfold runEnd; split <;> lia
theorem le_runEnd (mask i:Nat):i≤runEnd mask i:=by unfold runEnd; split <;> lia
theorem stand_le (mask:Nat) (p:Probe) (h:p.j + p.more≤mask):∀ n,(stand mask p n).j + (stand mask p n).more≤mask
  | 0=>h
  | n + 1=>by
    show (advM mask (stand mask p n)).j + (advM mask (stand mask p n)).more≤mask
    have ih:=stand_le mask p h n
    unfold advM
    split
    · rename_i c
      show (stand mask p n).j + 1 + ((stand mask p n).more - 1)≤mask
      lia
    · show (leap mask _ _).1 + (runEnd mask (leap mask _ _).1 - (leap mask _ _).1)≤mask
      have hl:(leap mask (stand mask p n).i (stand mask p n).perturb).1≤mask:=Nat.le_of_lt_succ (Nat.mod_lt _ (Nat.succ_pos _))
      have:=runEnd_le hl
      have:=le_runEnd mask (leap mask (stand mask p n).i (stand mask p n).perturb).1
      lia
theorem at_le (mask:Nat) (h:Int) (n:Nat):at_ mask h n≤mask:=by
  have hi:bits h % (mask + 1)≤mask:=Nat.le_of_lt_succ (Nat.mod_lt _ (Nat.succ_pos _))
  have:=stand_le mask (startM mask h) (by
    show bits h % (mask + 1) + (runEnd mask (bits h % (mask + 1)) - bits h % (mask + 1))≤mask
    have:=runEnd_le hi
    have:=le_runEnd mask (bits h % (mask + 1))
    lia) n
  unfold at_
  lia
noncomputable def ow (owner:Array (Option Nat)) (j:Nat):Option Nat:=owner.getD j none
theorem own_ow {owner:Array (Option Nat)} {mask j:Nat} (hs:owner.size=mask + 1) (hj:j≤mask):own owner j=ow owner j:=by
  unfold own ow
  have:j < owner.size:=by lia
  simp [Array.getD,this]
structure LayInv (mask:Nat) (hashes:List Int) (owner:Array (Option Nat)) (k:Nat):Prop where
  sz:owner.size=mask + 1
  lt:∀ j a,ow owner j=some a→j≤mask∧a < k
  inj:∀ j j' a,ow owner j=some a→ow owner j'=some a→j=j'
  surj:∀ a,a < k→∃ j,ow owner j=some a
  reach:∀ j a,ow owner j=some a→∃ h,hashes[a]?=some h∧∃ n,n < 10 * turns mask∧at_ mask h n=j∧∀ m,m < n→ow owner (at_ mask h m)≠none
theorem ow_set {owner:Array (Option Nat)} {mask j:Nat} (hs:owner.size=mask + 1) (hj:j≤mask) (v:Option Nat) (i:Nat):ow (owner.setIfInBounds j v) i=if i=j then v else ow owner i:=by
  unfold ow
  have hj':j < owner.size:=by lia
  by_cases h:i=j
  · subst h
    simp [Array.getD,hj']
  · rw [if_neg h]
    simp only [Array.getD_eq_getD_getElem?]
    rw [Array.getElem?_setIfInBounds_ne (fun z=>h z.symm)]
theorem lay_step {mask:Nat} (F:Full (mask + 1)) {hashes:List Int} {owner:Array (Option Nat)} {k:Nat} (I:LayInv mask hashes owner k) {h:Int} (hk:hashes[k]?=some h) (hm:k≤mask) :
    ∃ j,layClean.free mask owner (turns mask) (bits h % (mask + 1)) (bits h)=some j∧LayInv mask hashes (owner.setIfInBounds j (some k)) (k + 1):=by
  -- some place is free
  have hfree:∃ j,j≤mask∧ow owner j=none:=by
    apply Classical.byContradiction
    intro hn
    have hall:∀ j,j≤mask→∃ a,ow owner j=some a:=fun j hj=>by
      cases q:ow owner j with
      | none=>exact absurd ⟨j,hj,q⟩ hn
      | some a=>exact ⟨a,rfl⟩
    have nd:((List.range (mask + 1)).map fun j=>(ow owner j).getD 0).Nodup:=by
      rw [List.nodup_iff_pairwise_ne,List.pairwise_map]
      refine List.Pairwise.imp_of_mem ?_ (List.nodup_iff_pairwise_ne.mp List.nodup_range)
      intro a b ha hb hab e
      obtain ⟨x,hx⟩:=hall a (by have:=List.mem_range.mp ha; lia)
      obtain ⟨y,hy⟩:=hall b (by have:=List.mem_range.mp hb; lia)
      rw [hx,hy] at e
      have e:x=y:=e
      subst e
      exact hab (I.inj a b x hx hy)
    have:=pigeon _ (List.range k) nd fun x hx=>by
      obtain ⟨j,hj,rfl⟩:=List.mem_map.mp hx
      obtain ⟨a,ha⟩:=hall j (by have:=List.mem_range.mp hj; lia)
      rw [ha]
      exact List.mem_range.mpr (I.lt j a ha).2
    rw [List.length_map,List.length_range,List.length_range] at this
    lia
  obtain ⟨j0,hj0,ej0⟩:=hfree
  obtain ⟨r,hr,er⟩:=coversRun F h hj0
  obtain ⟨n,a1,a2,a3,a4⟩:=free_ok (mask:=mask) owner (turns mask) (bits h % (mask + 1)) (bits h) ⟨r,hr,by rw [er,own_ow I.sz hj0]; exact ej0⟩
  have hj:at_ mask h n≤mask:=at_le mask h n
  have e:(stand mask (runProbe mask (bits h % (mask + 1)) (bits h) none) n).j=at_ mask h n:=rfl
  rw [e] at a2 a3
  rw [own_ow I.sz hj] at a3
  have sw:=ow_set (owner:=owner) I.sz hj (some k)
  refine ⟨_,a2,⟨by rw [Array.size_setIfInBounds]; exact I.sz,fun j a q=>?_,fun j j' a q q'=>?_,fun a ha=>?_,fun j a q=>?_⟩⟩
  · rw [sw] at q
    split at q
    · rename_i c; cases q; exact ⟨by rw [c]; exact hj,Nat.lt_succ_self _⟩
    · have:=I.lt j a q; exact ⟨this.1,by lia⟩
  · rw [sw] at q q'
    split at q <;> split at q'
    · rename_i c c'; rw [c,c']
    · cases q; have:=(I.lt j' _ q').2; lia
    · cases q'; have:=(I.lt j _ q).2; lia
    · exact I.inj j j' a q q'
  · by_cases c:a=k
    · exact ⟨at_ mask h n,by rw [sw,if_pos rfl,c]⟩
    · obtain ⟨j,ej⟩:=I.surj a (by lia)
      refine ⟨j,?_⟩
      rw [sw,if_neg]
      · exact ej
      · intro z
        rw [z,a3] at ej
        cases ej
  · have keep:∀ i,ow owner i≠none→ow (owner.setIfInBounds (at_ mask h n) (some k)) i≠none:=fun i hi=>by
      rw [sw]
      split
      · simp
      · exact hi
    rw [sw] at q
    split at q
    · rename_i c
      cases q
      refine ⟨h,hk,n,a1,c.symm,fun m hm'=>keep _ ?_⟩
      have:=a4 m hm'
      have e':(stand mask (runProbe mask (bits h % (mask + 1)) (bits h) none) m).j=at_ mask h m:=rfl
      rw [e',own_ow I.sz (at_le mask h m)] at this
      exact this
    · obtain ⟨h',b1,n',b2,b3,b4⟩:=I.reach j a q
      exact ⟨h',b1,n',b2,b3,fun m hm'=>keep _ (b4 m hm')⟩
theorem lay_all {mask:Nat} (F:Full (mask + 1)) {hashes:List Int} (hm:hashes.length≤mask):∀ (rest:List Int) (owner:Array (Option Nat)) (k:Nat),hashes.drop k=rest→k + rest.length=hashes.length→LayInv mask hashes owner k→
    ∃ owner',(rest.foldl (fun (acc:Option (Array (Option Nat)×Nat)) h=>do
      let (owner,k) ← acc
      let j ← layClean.free mask owner (turns mask) (bits h % (mask + 1)) (bits h)
      pure (owner.setIfInBounds j (some k),k + 1)) (some (owner,k)))=some (owner',hashes.length)∧LayInv mask hashes owner' hashes.length
  | [],owner,k,_,hl,I=>by
    have:k=hashes.length:=by simpa using hl
    subst this
    exact ⟨owner,rfl,I⟩
  | h::rest,owner,k,hd,hl,I=>by
    have hk:hashes[k]?=some h:=by
      have:=congrArg (fun l=>l[0]?) hd
      simpa using this
    rw [List.length_cons] at hl
    obtain ⟨j,e,I'⟩:=lay_step F I hk (by lia)
    obtain ⟨owner',e',I''⟩:=lay_all F hm rest _ (k + 1) (by
      have:=congrArg List.tail hd
      rw [List.tail_drop] at this
      exact this) (by lia) I'
    refine ⟨owner',?_,I''⟩
    rw [List.foldl_cons,← e']
    congr 1
    show (layClean.free mask owner (turns mask) (bits h % (mask + 1)) (bits h)).bind _=_
    rw [e]
    rfl
theorem lay_start (mask:Nat) (hashes:List Int):LayInv mask hashes (Array.replicate (mask + 1) none) 0:=by
  have e:∀ j,ow (Array.replicate (mask + 1) (none:Option Nat)) j=none:=fun j=>by
    unfold ow
    simp only [Array.getD_eq_getD_getElem?,Array.getElem?_replicate]
    split <;> rfl
  refine ⟨by simp,fun j a q=>?_,fun j j' a q _=>?_,fun a ha=>by lia,fun j a q=>?_⟩
  all_goals rw [e] at q; cases q
theorem layClean_ok {mask:Nat} (F:Full (mask + 1)) {hashes:Array Int} (hm:hashes.size≤mask):∃ owner,layClean mask hashes=some owner∧LayInv mask hashes.toList owner hashes.size:=by
  obtain ⟨owner,e,I⟩:=lay_all F (hashes:=hashes.toList) (by simpa using hm) hashes.toList _ 0 rfl (by simp) (lay_start mask hashes.toList)
  refine ⟨owner,?_,by simpa using I⟩
  unfold layClean
  rw [← Array.foldl_toList,e]
  rfl
noncomputable def liveOf (owner:Array (Option Nat)) (mask:Nat):List (Nat×Nat):=(List.range (mask + 1)).filterMap fun j=>(ow owner j).map (j,·)
theorem live_mem {owner:Array (Option Nat)} {mask j a:Nat}:(j,a)∈liveOf owner mask↔j≤mask∧ow owner j=some a:=by
  unfold liveOf
  rw [List.mem_filterMap]
  constructor
  · rintro ⟨i,hi,e⟩
    have:=List.mem_range.mp hi
    cases q:ow owner i with
    | none=>rw [q] at e; cases e
    | some b=>rw [q] at e; cases e; exact ⟨by lia,q⟩
  · rintro ⟨h1,h2⟩
    exact ⟨j,List.mem_range.mpr (by lia),by rw [h2]; rfl⟩
theorem live_rise (owner:Array (Option Nat)) (mask:Nat):(liveOf owner mask).Pairwise fun x y=>x.1 < y.1:=by
  unfold liveOf
  rw [List.pairwise_filterMap]
  refine List.Pairwise.imp ?_ List.pairwise_lt_range
  intro a b hab x hx y hy
  cases q:ow owner a with
  | none=>rw [q] at hx; cases hx
  | some u=>
    rw [q] at hx
    cases q':ow owner b with
    | none=>rw [q'] at hy; cases hy
    | some v=>rw [q'] at hy; cases hx; cases hy; exact hab
theorem laid_ok {mask:Nat} (F:Full (mask + 1)) (ho:mask % 2=1) {hashes:Array Int} (hm:hashes.size≤mask) (finger moves:Nat) (led plain:Bool) :
    ∃ (t:SetTable) (order:Array Nat),laid mask finger moves led plain hashes=some (t,order)∧TabOk (fun i=>hashes.getD (order.getD i 0) 0) t∧t.place.size=hashes.size∧order.toList.Perm (List.range hashes.size)∧t.mask=mask∧t.led=led∧t.plain=plain∧t.moves=moves:=by
  obtain ⟨owner,e,I⟩:=layClean_ok F hm
  have hl:laid mask finger moves led plain hashes=some ({ mask,place:=((liveOf owner mask).map (·.1)).toArray,dummies:=#[],finger,led,moves,plain },((liveOf owner mask).map (·.2)).toArray):=by
    unfold laid
    rw [e]
    rfl
  have perm:((liveOf owner mask).map (·.2)).Perm (List.range hashes.size):=by
    have nd:((liveOf owner mask).map (·.2)).Nodup:=by
      rw [List.nodup_iff_pairwise_ne,List.pairwise_map]
      refine List.Pairwise.imp_of_mem ?_ (live_rise owner mask)
      rintro ⟨a,x⟩ ⟨b,y⟩ ha hb hab q
      have hab:a < b:=hab
      have q:x=y:=q
      subst q
      have:=I.inj a b x (live_mem.mp ha).2 (live_mem.mp hb).2
      lia
    refine (List.perm_ext_iff_of_nodup nd List.nodup_range).mpr fun x=>?_
    rw [List.mem_map,List.mem_range]
    constructor
    · rintro ⟨⟨j,a⟩,h,rfl⟩
      exact (I.lt j a (live_mem.mp h).2).2
    · intro hx
      obtain ⟨j,ej⟩:=I.surj x hx
      exact ⟨(j,x),live_mem.mpr ⟨(I.lt j x ej).1,ej⟩,rfl⟩
  have hsz:(liveOf owner mask).length=hashes.size:=by
    have:=perm.length_eq
    simpa using this
  have pm:∀ j,j∈((liveOf owner mask).map (·.1)).toArray↔j≤mask∧ow owner j≠none:=fun j=>by
    rw [List.mem_toArray,List.mem_map]
    constructor
    · rintro ⟨⟨j',a⟩,h,rfl⟩
      obtain ⟨h1,h2⟩:=live_mem.mp h
      exact ⟨h1,by rw [h2]; simp⟩
    · rintro ⟨h1,h2⟩
      cases q:ow owner j with
      | none=>exact absurd q h2
      | some a=>exact ⟨(j,a),live_mem.mpr ⟨h1,q⟩,rfl⟩
  refine ⟨_,_,hl,⟨⟨fun i j hi hj hij=>?_⟩,rfl,fun j hj=>((pm j).mp hj).1,ho,F,?_,fun i j hij=>?_⟩,?_,?_,rfl,rfl,rfl,rfl⟩
  · simp only [List.size_toArray,List.length_map] at hi hj
    simp only [List.getElem_toArray,List.getElem_map]
    exact (List.pairwise_iff_getElem.mp (live_rise owner mask)) i j hi hj hij
  · show ((liveOf owner mask).map (·.1)).toArray.size≤mask
    simp [hsz,hm]
  · have hij':((liveOf owner mask).map (·.1)).toArray[i]?=some j:=hij
    simp only [List.getElem?_toArray,List.getElem?_map] at hij'
    cases q:(liveOf owner mask)[i]? with
    | none=>rw [q] at hij'; cases hij'
    | some p=>
      rw [q] at hij'
      obtain ⟨j',a⟩:=p
      have hij':j'=j:=Option.some.inj hij'
      subst hij'
      obtain ⟨h1,h2⟩:=live_mem.mp (List.mem_of_getElem? q)
      obtain ⟨h,b1,n,b2,b3,b4⟩:=I.reach j' a h2
      have eh:hashes.getD (((liveOf owner mask).map (·.2)).toArray.getD i 0) 0=h:=by
        have e1:((liveOf owner mask).map (·.2)).toArray.getD i 0=a:=by
          simp [Array.getD_eq_getD_getElem?,q]
        rw [e1]
        have b1':hashes[a]?=some h:=by rw [← Array.getElem?_toList]; exact b1
        simp [Array.getD_eq_getD_getElem?,b1']
      show ∃ n,n < 10 * turns mask∧at_ mask (hashes.getD (((liveOf owner mask).map (·.2)).toArray.getD i 0) 0) n=j'∧∀ m,m < n→at_ mask (hashes.getD (((liveOf owner mask).map (·.2)).toArray.getD i 0) 0) m∈((liveOf owner mask).map (·.1)).toArray
      rw [eh]
      exact ⟨n,b2,b3,fun m hm'=>(pm _).mpr ⟨at_le mask h m,b4 m hm'⟩⟩
  · simp [hsz]
  · simpa using perm
end L2
namespace L2
open PySem PySem.Spec PyProof.Rows
mutual
noncomputable def hashD (w:World):D→Int
  | .int i=>hashInt i
  | .str x=>hashStr w x
  | .tup xs=>reduceHash (Builtin.Tuple.tupleHashOf (hashDs w xs))
  | _=>0
noncomputable def hashDs (w:World):List D→List Int
  | []=>[]
  | d::ds=>hashD w d::hashDs w ds
end
theorem hashDs_map (w:World):∀ ds,hashDs w ds=ds.map (hashD w)
  | []=>rfl
  | d::ds=>by rw [List.map_cons,← hashDs_map w ds]; rfl
noncomputable def hkN:Nat→D→Bool
  | _,.int _=>true
  | n + 1,.tup xs=>xs.all (hkN n)
  | _,_=>false
section
variable {prog:Program} {w:World}
theorem reads_tup {h:Heap} {ds:List D} {u:Value} {as:List Addr} (r:Reads h u (toPy (.tup ds)) as):∃ a o vs n,u=.ref a∧h.get? a=some o∧o.cls=.type "tuple"∧o.data=.seq vs n∧ReadsAll h vs.toList (toPys ds) as:=by
  cases r with
  | tuple h1 h2 h3 h4=>exact ⟨_,_,_,_,rfl,h1,h2,h3,h4⟩
theorem hash_ok:∀ (n:Nat) {A:Around} {E:Value→Shared→Prop} {s:Shared} {d:D} {u:Value} {as:List Addr} {Q:Int→Shared→Prop},A.units + n < cLine→hkN n d=true→Reads s.heap u (toPy d) as→
    (∀ tk,s.toks≤tk→Q (hashD w d) { s with toks:=tk })→wpAny (model prog w) A (pyHash u) Q E s:=by
  intro n
  induction n with
  | zero=>
    intro A E s d u as Q hu hd r h
    cases d with
    | int i=>cases r; exact wpAny_pyHash_int (h _ (Nat.le_succ _))
    | str x=>cases r; exact wpAny_pyHash_str (h _ (Nat.le_succ _))
    | _=>cases hd
  | succ n ih=>
    intro A E s d u as Q hu hd r h
    cases d with
    | int i=>cases r; exact wpAny_pyHash_int (h _ (Nat.le_succ _))
    | str x=>cases r; exact wpAny_pyHash_str (h _ (Nat.le_succ _))
    | tup ds=>
      obtain ⟨a,o,vs,m,rfl,ho,hc,hdt,ra⟩:=reads_tup r
      have hT:s.TypeIs (.ref a) "tuple":=⟨o,ho,hc⟩
      have hall:∀ d∈ds,hkN n d=true:=fun d m=>List.all_eq_true.mp hd d m
      unfold pyHash
      unfold pyHashByItsType
      refine wpAny_bind (wpAny_cRoomFor_or (.inr (by lia)) ?_)
      refine wpAny_bind (wpAny_specialOf hT F.slot_tuple_hash.lookup ?_)
      show wpAny _ _ (if (some (Value.builtin "tuple.__hash__") == some Value.none)=true then _ else _) Q E s
      rw [if_neg (by rw [beq_builtin_none]; exact Bool.false_ne_true)]
      refine wpAny_bind (wpAny_specialOf hT F.slot_tuple_hash.lookup ?_)
      show wpAny _ _ (callSpecialIfBoundUnlessNone? (.ref a) "__hash__" _>>=_) Q E s
      refine wpAny_bind (wpAny_callSpecialIfBoundUnlessNone?_slot hT F.slot_tuple_hash (wpAny_call_entry F.slot_tuple_hash hT F.entry_tuple_hash ?_ (F.args_tuple_hash_1 _)))
      show wpAny _ _ (Builtin.Tuple.tupleItemsOf (.ref a)>>=_) _ _ s
      refine wpAny_bind (wpAny_tupleItemsOf ho hdt ?_)
      refine wpAny_bind ?_
      rw [← Array.forIn_toList]
      refine wpAny_forIn_list _
        (fun rest (b:Array Int) s'=>∃ done left bs tk,ds=done++left∧ReadsAll s.heap rest (toPys left) bs∧b.toList=done.map (hashD w)∧s.toks≤tk∧s'={ s with toks:=tk })
        _ ?_ ?_ _ _ ⟨[],ds,_,_,rfl,ra,rfl,Nat.le_refl _,rfl⟩
      · rintro x rest b s' ⟨done,left,bs,tk,e,hl,hb,hk,rfl⟩
        cases left with
        | nil=>cases hl
        | cons d0 left=>
          cases hl with
          | cons h1 h2=>
            refine wpAny_bind (ih (by show A.units + 1 + n < cLine; lia) (hall d0 (by rw [e]; simp)) h1 fun tk' hk'=>?_)
            first
              | exact wpAny_pure ⟨done++[d0],left,_,_,by simp [e],h2,by simp [hb],Nat.le_trans hk hk',rfl⟩
              | exact wpAny_bind (wpAny_pure (wpAny_pure ⟨done++[d0],left,_,_,by simp [e],h2,by simp [hb],Nat.le_trans hk hk',rfl⟩))
      · rintro b s' ⟨done,left,bs,tk,e,hl,hb,hk,rfl⟩
        cases left with
        | cons _ _=>cases hl
        | nil=>
        rw [List.append_nil] at e
        subst e
        show wpAny _ _ (retInt (Builtin.Tuple.tupleHashOf b.toList)) _ _ _
        rw [hb,← hashDs_map]
        refine wpAny_ret_mkInt ?_
        have h':∀ tk,s.toks≤tk→Q (reduceHash (Builtin.Tuple.tupleHashOf (hashDs w ds))) { s with toks:=tk }:=h
        generalize Builtin.Tuple.tupleHashOf (hashDs w ds)=z at h'
        show wpAny _ _ (if (decide (-(2:Int) ^ 63≤z)&&decide (z < 2 ^ 63))=true then _ else _) Q E _
        unfold reduceHash at h'
        by_cases hr:(decide (-(2:Int) ^ 63≤z)&&decide (z < 2 ^ 63))=true
        · rw [if_pos hr]
          rw [if_pos hr] at h'
          exact wpAny_pure (h' _ (by show s.toks≤_; first | exact hk | (simp only []; lia)))
        · rw [if_neg hr]
          rw [if_neg hr] at h'
          exact wpAny_bind (wpAny_rule (wpAny_pure (h' _ (by show s.toks≤_; first | exact hk | (simp only []; lia)))))
    | _=>cases hd
end
section
variable {prog:Program} {w:World}
theorem quiet_ok:∀ (n m:Nat) {A:Around} {E:Value→Shared→Prop} {s:Shared} {d:D} {u:Value} {as:List Addr} {Q:Bool→Shared→Prop},n≤m→hkN n d=true→Reads s.heap u (toPy d) as→Q true s→
    wpAny (model prog w) A (eqIsQuiet m u) Q E s:=by
  intro n
  induction n with
  | zero=>
    intro m A E s d u as Q hm hd r h
    cases d with
    | int i=>cases r; rw [eqIsQuiet_byValue _ rfl]; exact wpAny_pure h
    | str x=>cases r; rw [eqIsQuiet_byValue _ rfl]; exact wpAny_pure h
    | _=>cases hd
  | succ n ih=>
    intro m A E s d u as Q hm hd r h
    cases d with
    | int i=>cases r; rw [eqIsQuiet_byValue _ rfl]; exact wpAny_pure h
    | str x=>cases r; rw [eqIsQuiet_byValue _ rfl]; exact wpAny_pure h
    | tup ds=>
      obtain ⟨a,o,vs,k,rfl,ho,hc,hdt,ra⟩:=reads_tup r
      have hT:s.TypeIs (.ref a) "tuple":=⟨o,ho,hc⟩
      have hall:∀ d∈ds,hkN n d=true:=fun d m=>List.all_eq_true.mp hd d m
      obtain ⟨m,rfl⟩:∃ m',m=m' + 1:=⟨m - 1,by lia⟩
      unfold eqIsQuiet
      refine wpAny_bind (wpAny_specialOf hT F.slot_tuple_eq.lookup ?_)
      show wpAny _ _ (isInstance (.ref a) (.type "tuple")>>=_) Q E s
      refine wpAny_bind (wpAny_isInstance hT isSubtype_tuple_tuple ?_)
      show wpAny _ _ (seqItems? (.ref a)>>=_) Q E s
      refine wpAny_bind (wpAny_seqItems ho hdt ?_)
      show wpAny _ _ (forIn vs _ _>>=_) Q E s
      refine wpAny_bind ?_
      rw [← Array.forIn_toList]
      refine wpAny_forIn_list _ (fun rest r s'=>r.1=none∧s'=s∧∃ left bs,(∀ d∈left,hkN n d=true)∧ReadsAll s.heap rest (toPys left) bs) _ ?_ ?_ _ _ ⟨rfl,rfl,ds,_,hall,ra⟩
      · rintro x rest ⟨r1,r2⟩ s' ⟨e,rfl,left,bs,hl,hr⟩
        cases left with
        | nil=>cases hr
        | cons d0 left=>
          cases hr with
          | cons h1 h2=>
            refine wpAny_bind (ih m (by lia) (hl d0 List.mem_cons_self) h1 ?_)
            exact wpAny_pure ⟨rfl,rfl,left,_,fun d m=>hl d (List.mem_cons_of_mem _ m),h2⟩
      · rintro ⟨r1,r2⟩ s' ⟨e,rfl,_⟩
        cases e
        exact wpAny_pure h
    | _=>cases hd
theorem byval_ok:∀ (n m:Nat) {A:Around} {E:Value→Shared→Prop} {s:Shared} {d:D} {u:Value} {as:List Addr} {Q:Bool→Shared→Prop},n≤m→hkN n d=true→Reads s.heap u (toPy d) as→Q true s→
    wpAny (model prog w) A (hashByValue m u) Q E s:=by
  intro n
  induction n with
  | zero=>
    intro m A E s d u as Q hm hd r h
    cases d with
    | int i=>cases r; rw [hashByValue_scannable _ rfl]; exact wpAny_pure h
    | _=>cases hd
  | succ n ih=>
    intro m A E s d u as Q hm hd r h
    cases d with
    | int i=>cases r; rw [hashByValue_scannable _ rfl]; exact wpAny_pure h
    | tup ds=>
      obtain ⟨a,o,vs,k,rfl,ho,hc,hdt,ra⟩:=reads_tup r
      have hT:s.TypeIs (.ref a) "tuple":=⟨o,ho,hc⟩
      have hall:∀ d∈ds,hkN n d=true:=fun d m=>List.all_eq_true.mp hd d m
      obtain ⟨m,rfl⟩:∃ m',m=m' + 1:=⟨m - 1,by lia⟩
      unfold hashByValue
      refine wpAny_bind (wpAny_specialOf hT F.slot_tuple_hash.lookup ?_)
      show wpAny _ _ (seqItems? (.ref a)>>=_) Q E s
      refine wpAny_bind (wpAny_seqItems ho hdt ?_)
      show wpAny _ _ (forIn vs _ _>>=_) Q E s
      refine wpAny_bind ?_
      rw [← Array.forIn_toList]
      refine wpAny_forIn_list _ (fun rest r s'=>r.1=none∧s'=s∧∃ left bs,(∀ d∈left,hkN n d=true)∧ReadsAll s.heap rest (toPys left) bs) _ ?_ ?_ _ _ ⟨rfl,rfl,ds,_,hall,ra⟩
      · rintro x rest ⟨r1,r2⟩ s' ⟨e,rfl,left,bs,hl,hr⟩
        cases left with
        | nil=>cases hr
        | cons d0 left=>
          cases hr with
          | cons h1 h2=>
            refine wpAny_bind (ih m (by lia) (hl d0 List.mem_cons_self) h1 ?_)
            exact wpAny_pure ⟨rfl,rfl,left,_,fun d m=>hl d (List.mem_cons_of_mem _ m),h2⟩
      · rintro ⟨r1,r2⟩ s' ⟨e,rfl,_⟩
        cases e
        exact wpAny_pure h
    | _=>cases hd
theorem own_ok:∀ (n m:Nat) {A:Around} {E:Value→Shared→Prop} {s:Shared} {d:D} {u:Value} {as:List Addr} {Q:Bool→Shared→Prop},n≤m→hkN n d=true→Reads s.heap u (toPy d) as→Q false s→
    wpAny (model prog w) A (ofAClassStatement m u) Q E s:=by
  intro n
  induction n with
  | zero=>
    intro m A E s d u as Q hm hd r h
    cases d with
    | int i=>cases r; unfold ofAClassStatement; exact wpAny_pure h
    | str x=>cases r; unfold ofAClassStatement; exact wpAny_pure h
    | _=>cases hd
  | succ n ih=>
    intro m A E s d u as Q hm hd r h
    cases d with
    | int i=>cases r; unfold ofAClassStatement; exact wpAny_pure h
    | str x=>cases r; unfold ofAClassStatement; exact wpAny_pure h
    | tup ds=>
      obtain ⟨a,o,vs,k,rfl,ho,hc,hdt,ra⟩:=reads_tup r
      have hT:s.TypeIs (.ref a) "tuple":=⟨o,ho,hc⟩
      have hall:∀ d∈ds,hkN n d=true:=fun d m=>List.all_eq_true.mp hd d m
      obtain ⟨m,rfl⟩:∃ m',m=m' + 1:=⟨m - 1,by lia⟩
      unfold ofAClassStatement
      refine wpAny_bind (wpAny_typeOf hT ?_)
      show wpAny _ _ ((if ("tuple" == "tuple")=true then pure true else isSubtype (.type "tuple") (.type "tuple"))>>=_) Q E s
      rw [if_pos (show ("tuple" == "tuple")=true by decide)]
      refine wpAny_bind (wpAny_pure ?_)
      show wpAny _ _ (seqItems? (.ref a)>>=_) Q E s
      refine wpAny_bind (wpAny_seqItems ho hdt ?_)
      show wpAny _ _ (forIn vs _ _>>=_) Q E s
      refine wpAny_bind ?_
      rw [← Array.forIn_toList]
      refine wpAny_forIn_list _ (fun rest r s'=>r.1=none∧s'=s∧∃ left bs,(∀ d∈left,hkN n d=true)∧ReadsAll s.heap rest (toPys left) bs) _ ?_ ?_ _ _ ⟨rfl,rfl,ds,_,hall,ra⟩
      · rintro x rest ⟨r1,r2⟩ s' ⟨e,rfl,left,bs,hl,hr⟩
        cases left with
        | nil=>cases hr
        | cons d0 left=>
          cases hr with
          | cons h1 h2=>
            refine wpAny_bind (ih m (by lia) (hl d0 List.mem_cons_self) h1 ?_)
            exact wpAny_pure ⟨rfl,rfl,left,_,fun d m=>hl d (List.mem_cons_of_mem _ m),h2⟩
      · rintro ⟨r1,r2⟩ s' ⟨e,rfl,_⟩
        cases e
        exact wpAny_pure h
    | _=>cases hd
end
end L2
namespace L2
open PySem PySem.Spec PyProof.Rows PySem.SetTable
noncomputable def keyOk (d:D):Bool:=hkN 8 d&&okN 8 d&&(match d with | .tup _=>true | _=>false)
theorem keyOk_iff {d:D} (h:keyOk d=true):hkN 8 d=true∧okN 8 d=true∧∃ xs,d=.tup xs:=by
  unfold keyOk at h
  rw [Bool.and_eq_true,Bool.and_eq_true] at h
  refine ⟨h.1.1,h.1.2,?_⟩
  cases d with
  | tup xs=>exact ⟨xs,rfl⟩
  | _=>cases h.2
noncomputable def KeyAt (h:Heap) (u:Value) (d:D):Prop:=keyOk d=true∧∃ as,Reads h u (toPy d) as
theorem KeyAt.ref {h:Heap} {u:Value} {d:D} (k:KeyAt h u d):∃ a,u=.ref a:=by
  obtain ⟨k,as,r⟩:=k
  obtain ⟨_,_,xs,rfl⟩:=keyOk_iff k
  obtain ⟨a,_,_,_,e,_⟩:=reads_tup r
  exact ⟨a,e⟩
theorem KeyAt.keeps {h h':Heap} {u:Value} {d:D} (k:KeyAt h u d) (hk:∀ b o,h.get? b=some o→h'.get? b=some o):KeyAt h' u d:=by
  obtain ⟨k,as,r⟩:=k
  exact ⟨k,as,PyProof.Rows.Reads.keeps hk r⟩
section
variable {prog:Program} {w:World} {A:Around} {E:Value→Shared→Prop} {s:Shared}
theorem key_eq {x y:Value} {dx dy:D} {Q:Bool→Shared→Prop} (hu:A.units + 64 < cLine) (hx:KeyAt s.heap x dx) (hy:KeyAt s.heap y dy) (h:Q (eqd dx dy) s):wpAny (model prog w) A (eqBool x y) Q E s:=by
  obtain ⟨k1,as,r1⟩:=hx
  obtain ⟨k2,bs,r2⟩:=hy
  obtain ⟨l1,p1⟩:=okN_lay 8 dx (keyOk_iff k1).2.1
  obtain ⟨l2,p2⟩:=okN_lay 8 dy (keyOk_iff k2).2.1
  refine PySem.SeqAt.eqAt_reads _ _ A s x y _ _ r1 r2 l1 l2 ?_ prog w E Q h
  have:min (toPy dx).depth (toPy dy).depth≤(toPy dx).depth:=Nat.min_le_left _ _
  lia
theorem seen_ok {x:Value} {dx:D} (hx:KeyAt s.heap x dx) {Q:Bool→Shared→Prop}:∀ {stored:List Value},(∀ y∈stored,∃ d,KeyAt s.heap y d)→Q false s→wpAny (model prog w) A (searchCouldBeSeen x stored) Q E s:=by
  intro stored hst h
  obtain ⟨k1,as,r1⟩:=hx
  unfold searchCouldBeSeen
  refine wpAny_bind ?_
  refine wpAny_forIn_list _ (fun rest r s'=>r.1=none∧s'=s∧∀ y∈rest,∃ d,KeyAt s.heap y d) _ ?_ ?_ _ _ ⟨rfl,rfl,hst⟩
  · rintro y rest ⟨r1',r2⟩ s' ⟨e,rfl,hl⟩
    obtain ⟨d,k2,bs,r2'⟩:=hl y List.mem_cons_self
    have hrest:∀ y∈rest,∃ d,KeyAt s'.heap y d:=fun y m=>hl y (List.mem_cons_of_mem _ m)
    dsimp only
    have body:∀ (c:Prop) [Decidable c] (Z:Sem (ForInStep (Option Bool×Unit))) (R:ForInStep (Option Bool×Unit)→Shared→Prop),R (.yield (none,())) s'→(∀ R',R'=R→wpAny (model prog w) A Z R' E s')→wpAny (model prog w) A (if c then pure (.yield (none,())) else Z) R E s':=by
      intro c _ Z R h1 h2
      split
      · exact wpAny_pure h1
      · exact h2 R rfl
    split
    all_goals
      refine body _ _ _ ⟨rfl,rfl,hrest⟩ ?_
      rintro _ rfl
      refine wpAny_bind (quiet_ok 8 8 (Nat.le_refl _) (keyOk_iff k1).1 r1 ?_)
      refine wpAny_bind (quiet_ok 8 8 (Nat.le_refl _) (keyOk_iff k2).1 r2' ?_)
      refine wpAny_bind (own_ok 8 8 (Nat.le_refl _) (keyOk_iff k1).1 r1 ?_)
      refine wpAny_bind (own_ok 8 8 (Nat.le_refl _) (keyOk_iff k2).1 r2' ?_)
      exact wpAny_pure ⟨rfl,rfl,hrest⟩
  · rintro ⟨r1',r2⟩ s' ⟨e,rfl,_⟩
    cases e
    exact wpAny_pure h
end
noncomputable def hsOf (es:Array (Int×Value)) (i:Nat):Int:=(es[i]?.map (·.1)).getD 0
structure SetAt (Pv:Value→D→Prop) (w:World) (h:Heap) (a:Addr) (es:Array (Int×Value)) (t:SetTable) (ds:List D):Prop where
  obj:∃ o ep,h.get? a=some o∧o.ExactSet∧o.data=.set es ep t
  tab:TabOk (hsOf es) t
  siz:t.place.size=es.size
  len:ds.length=es.size
  its:∀ (i:Nat) (e:Int×Value) (d:D),es[i]?=some e→ds[i]?=some d→e.1=hashD w d∧KeyAt h e.2 d
  pv:∀ (i:Nat) (e:Int×Value) (d:D),es[i]?=some e→ds[i]?=some d→Pv e.2 d
theorem Rising.inj {xs:Array Nat} (r:Rising xs) {i k j:Nat} (h1:xs[i]?=some j) (h2:xs[k]?=some j):i=k:=by
  obtain ⟨a,e1⟩:=Array.getElem?_eq_some_iff.mp h1
  obtain ⟨b,e2⟩:=Array.getElem?_eq_some_iff.mp h2
  rcases Nat.lt_trichotomy i k with q | q | q
  · have:=r.lt i k a b q; lia
  · exact q
  · have:=r.lt k i b a q; lia
section
variable {Pv:Value→D→Prop} {prog:Program} {w:World} {A:Around} {E:Value→Shared→Prop} {s:Shared}
theorem SetAt.state {a:Addr} {es:Array (Int×Value)} {t:SetTable} {ds:List D} (S:SetAt Pv w s.heap a es t ds) {Q:(Array (Int×Value)×Nat×SetTable)→Shared→Prop} (h:∀ ep,Q (es,ep,t) s) :
    wpAny (model prog w) A (setState a) Q E s:=by
  obtain ⟨o,ep,h1,h2,h3⟩:=S.obj
  exact wpAny_setState_of h1 h3 (S.tab.fits S.siz) (h ep)
theorem SetAt.key {a:Addr} {es:Array (Int×Value)} {t:SetTable} {ds:List D} {h:Heap} (S:SetAt Pv w h a es t ds) {i:Nat} {e:Int×Value} (he:es[i]?=some e):∃ d,ds[i]?=some d∧e.1=hashD w d∧KeyAt h e.2 d:=by
  obtain ⟨hi,_⟩:=Array.getElem?_eq_some_iff.mp he
  have hd:i < ds.length:=by rw [S.len]; exact hi
  exact ⟨ds[i],List.getElem?_eq_getElem hd,S.its i e _ he (List.getElem?_eq_getElem hd)⟩
noncomputable def Gone (t:SetTable) (es:Array (Int×Value)) (ds:List D) (h:Int) (dx:D) (l:Nat):Prop:=∃ i,t.place[i]?=some (at_ t.mask h l)∧(hsOf es i≠h∨∃ d,ds[i]?=some d∧eqd d dx=false)
theorem not_there {a:Addr} {es:Array (Int×Value)} {t:SetTable} {ds:List D} {hp:Heap} (S:SetAt Pv w hp a es t ds) {dx:D} {m:Nat} (hEq:∀ d∈ds,eqd d dx=true→hashD w d=hashD w dx)
    (hm:at_ t.mask (hashD w dx) m∉t.place) (hg:∀ l,l < m→Gone t es ds (hashD w dx) dx l):∀ d∈ds,eqd d dx=false:=by
  intro d hd
  cases q:eqd d dx with
  | false=>rfl
  | true=>
    exfalso
    have hh:=hEq d hd q
    obtain ⟨i,hi,e⟩:=List.getElem_of_mem hd
    have hi':i < es.size:=by rw [← S.len]; exact hi
    have hp':i < t.place.size:=by rw [S.siz]; exact hi'
    have e1:es[i]?=some es[i]:=Array.getElem?_eq_getElem hi'
    have e2:ds[i]?=some d:=by rw [List.getElem?_eq_getElem hi,e]
    have e3:t.place[i]?=some t.place[i]:=Array.getElem?_eq_getElem hp'
    have hs:hsOf es i=hashD w dx:=by unfold hsOf; rw [e1]; exact (S.its i _ d e1 e2).1.trans hh
    obtain ⟨n,n1,n2,n3⟩:=S.tab.reach i _ e3
    rw [hs] at n2 n3
    rcases Nat.lt_trichotomy n m with z | z | z
    · obtain ⟨k,k1,k2⟩:=hg n z
      rw [n2] at k1
      have:=S.tab.rise.inj k1 e3
      subst this
      rcases k2 with k2 | ⟨d',k2,k3⟩
      · exact k2 hs
      · rw [e2] at k2; cases k2; rw [q] at k3; cases k3
    · subst z
      rw [n2] at hm
      exact hm (Array.getElem_mem hp')
    · exact hm (n3 m z)
theorem search_from {a:Addr} {es:Array (Int×Value)} {t:SetTable} {ds:List D} (S:SetAt Pv w s.heap a es t ds) {x:Value} {dx:D} (hx:KeyAt s.heap x dx) (hu:A.units + 64 < cLine) {Q:SetFound→Shared→Prop} {N:Nat} (hN:N < 10 * turns t.mask) (hN':at_ t.mask (hashD w dx) N∉t.place)
    (hEq:∀ d∈ds,eqd d dx=true→hashD w d=hashD w dx)
    (q1:∀ d∈ds,eqd d dx=true→Q (.there none) s)
    (q2:∀ m,m≤N→at_ t.mask (hashD w dx) m∉t.place→(∀ l,l < m→at_ t.mask (hashD w dx) l∈t.place)→(∀ d∈ds,eqd d dx=false)→Q (.free (at_ t.mask (hashD w dx) m) false) s) :
    ∀ (f n:Nat) (st:Option Probe),st.getD (t.probeStart (hashD w dx))=stand t.mask (startM t.mask (hashD w dx)) n→n≤N→N - n < f→(∀ l,l < n→Gone t es ds (hashD w dx) dx l)→
      wpAny (model prog w) A (setSearchFrom a x (hashD w dx) true f st) Q E s
  | 0,n,st,_,_,h,_=>by lia
  | f + 1,n,st,e,hn,hf,hg=>by
    unfold setSearchFrom
    refine wpAny_bind (S.state fun ep=>?_)
    dsimp only
    rw [S.tab.gave]
    simp only [Bool.false_eq_true,if_false]
    rw [e]
    have gone:∀ m,n≤m→(∀ l,n≤l→l < m→∃ i,t.place[i]?=some (at_ t.mask (hashD w dx) l)∧hsOf es i≠hashD w dx)→∀ l,l < m→Gone t es ds (hashD w dx) dx l:=fun m _ h l hl=>by
      rcases Nat.lt_or_ge l n with z | z
      · exact hg l z
      · obtain ⟨i,i1,i2⟩:=h l z hl
        exact ⟨i,i1,.inl i2⟩
    rcases probe_go S.tab (hashAt:=hsOf es) hN' (10 * turns t.mask) n hn (by lia) with ⟨m,m1,m2,m3,m4,m5⟩ | ⟨m,i,m1,m2,m3,m4,m5,m6⟩
    · generalize hz:t.probe _ (hashD w dx) (stand t.mask (startM t.mask (hashD w dx)) n)=z
      have hz':z=some (.empty (at_ t.mask (hashD w dx) m) none):=hz.symm.trans m5
      subst hz'
      have hgo:=gone m m1 m4
      refine wpAny_pure (q2 m m2 m3 (fun l hl=>?_) (not_there S hEq m3 hgo))
      obtain ⟨i,i1,_⟩:=hgo l hl
      exact Array.mem_of_getElem? i1
    · generalize hz:t.probe _ (hashD w dx) (stand t.mask (startM t.mask (hashD w dx)) n)=z
      have hz':z=some (.candidate (at_ t.mask (hashD w dx) m) i (stand t.mask (startM t.mask (hashD w dx)) (m + 1))):=hz.symm.trans m6
      subst hz'
      have hgo:=gone m m1 m5
      have hsl:=slot_live S.tab.rise m3
      have hi:i < es.size:=by
        rw [← S.siz]
        obtain ⟨h,_⟩:=Array.getElem?_eq_some_iff.mp m3
        exact h
      have e1:es[i]?=some es[i]:=Array.getElem?_eq_getElem hi
      obtain ⟨d,e2,e3,e4⟩:=S.key e1
      obtain ⟨ra,era⟩:=e4.ref
      have key:∀ (U Z:Sem SetFound),wpAny (model prog w) A Z Q E s→wpAny (model prog w) A (if (!t.led)=true then (do
          let b ← searchCouldBeSeen x (List.map (fun x=>x.snd) (Array.filter (fun x=>x.fst == hashD w dx) es).toList)
          if b=true then U else Z) else Z) Q E s:=by
        intro U Z hZ
        split
        · refine wpAny_bind (seen_ok hx (fun y hy=>?_) ?_)
          · obtain ⟨p,hp,rfl⟩:=List.mem_map.mp hy
            have hp':p∈es:=(Array.mem_filter.mp (Array.mem_toList_iff.mp hp)).1
            obtain ⟨k,hk⟩:=Array.getElem?_of_mem hp'
            obtain ⟨d,_,_,h⟩:=S.key hk
            exact ⟨d,h⟩
          · rw [if_neg Bool.false_ne_true]
            exact hZ
        · exact hZ
      refine key _ _ ?_
      rw [e1]
      dsimp only
      refine wpAny_bind (wpAny_holding (key_eq hu e4 hx ?_))
      refine wpAny_bind (S.state fun ep'=>?_)
      dsimp only
      cases hq:eqd d dx with
      | true=>exact wpAny_pure (q1 d (List.mem_of_getElem? e2) hq)
      | false=>
        rw [Bool.and_false,if_neg Bool.false_ne_true]
        have hsm:t.sameMemory t.moves t.mask=some true:=by unfold sameMemory; rw [if_pos (by simp)]
        rw [hsm]
        dsimp only
        rw [if_pos rfl,hsl]
        dsimp only
        rw [e1]
        dsimp only
        rw [era]
        refine wpAny_bind (wpAny_isSame_ref_self ?_)
        refine wpAny_bind (wpAny_pure ?_)
        rw [if_pos rfl]
        dsimp only
        rw [if_neg Bool.false_ne_true]
        refine search_from S hx hu hN hN' hEq q1 q2 f (m + 1) _ rfl (by lia) (by lia) fun l hl=>?_
        rcases Nat.lt_or_ge l m with z | z
        · exact hgo l z
        · have:l=m:=by lia
          subst this
          exact ⟨i,m3,.inr ⟨d,e2,hq⟩⟩
end
theorem eqd_same:∀ (n:Nat) {d e:D},hkN n d=true→hkN n e=true→eqd d e=true→d=e:=by
  intro n
  induction n with
  | zero=>
    intro d e hd he h
    cases d with
    | int i=>
      cases e with
      | int j=>exact congrArg D.int (eq_of_beq h)
      | str y=>cases h
      | _=>cases he
    | str x=>
      cases e with
      | str y=>exact congrArg D.str (eq_of_beq h)
      | int j=>cases h
      | _=>cases he
    | _=>cases hd
  | succ n ih=>
    have all:∀ ds es:List D,(∀ d∈ds,hkN n d=true)→(∀ d∈es,hkN n d=true)→PyData.eqvAll (toPys ds) (toPys es)=true→ds=es:=by
      intro ds
      induction ds with
      | nil=>
        intro es _ _ h
        cases es with
        | nil=>rfl
        | cons _ _=>cases h
      | cons d ds ihl=>
        intro es h1 h2 h
        cases es with
        | nil=>cases h
        | cons e es=>
          have h':(PyData.eqv (toPy d) (toPy e)&&PyData.eqvAll (toPys ds) (toPys es))=true:=h
          rw [Bool.and_eq_true] at h'
          rw [ih (h1 d List.mem_cons_self) (h2 e List.mem_cons_self) h'.1,ihl es (fun d m=>h1 d (List.mem_cons_of_mem _ m)) (fun d m=>h2 d (List.mem_cons_of_mem _ m)) h'.2]
    intro d e hd he h
    cases d with
    | int i=>
      cases e with
      | int j=>exact congrArg D.int (eq_of_beq h)
      | str y=>cases h
      | tup y=>cases h
      | _=>cases he
    | str x=>
      cases e with
      | str y=>exact congrArg D.str (eq_of_beq h)
      | int j=>cases h
      | tup y=>cases h
      | _=>cases he
    | tup xs=>
      cases e with
      | tup ys=>exact congrArg D.tup (all xs ys (fun d m=>List.all_eq_true.mp hd d m) (fun d m=>List.all_eq_true.mp he d m) h)
      | int j=>cases h
      | str j=>cases h
      | _=>cases he
    | _=>cases hd
theorem reads_off {h h':Heap} (hk:∀ b o vs n,h.get? b=some o→o.data=.seq vs n→h'.get? b=some o):∀ (n:Nat) {d:D} {u:Value} {as:List Addr},hkN n d=true→Reads h u (toPy d) as→Reads h' u (toPy d) as:=by
  intro n
  induction n with
  | zero=>
    intro d u as hd r
    cases d with
    | int i=>cases r; exact .int _ _
    | str i=>cases r; exact .str _ _
    | _=>cases hd
  | succ n ih=>
    have all:∀ (ds:List D) (us:List Value) (as:List Addr),(∀ d∈ds,hkN n d=true)→ReadsAll h us (toPys ds) as→ReadsAll h' us (toPys ds) as:=by
      intro ds
      induction ds with
      | nil=>intro us as _ r; cases r; exact .nil
      | cons d ds ihl=>
        intro us as hl r
        cases r with
        | cons h1 h2=>exact .cons (ih (hl d List.mem_cons_self) h1) (ihl _ _ (fun d m=>hl d (List.mem_cons_of_mem _ m)) h2)
    intro d u as hd r
    cases d with
    | int i=>cases r; exact .int _ _
    | str i=>cases r; exact .str _ _
    | tup ds=>
      obtain ⟨a,o,vs,k,rfl,ho,hc,hdt,ra⟩:=reads_tup r
      exact .tuple (hk a o _ _ ho hdt) hc hdt (all ds _ _ (fun d m=>List.all_eq_true.mp hd d m) ra)
    | _=>cases hd
theorem KeyAt.off {h h':Heap} {u:Value} {d:D} (k:KeyAt h u d) {a:Addr} {o:Obj} {es:Array (Int×Value)} {ep:Nat} {t:SetTable} (ho:h.get? a=some o) (hd:o.data=.set es ep t) (hk:∀ b,b≠a→h'.get? b=h.get? b):KeyAt h' u d:=by
  obtain ⟨k,as,r⟩:=k
  refine ⟨k,as,reads_off (fun b o' vs n hb hq=>?_) 8 (keyOk_iff k).1 r⟩
  rw [hk b (fun e=>?_)]
  · exact hb
  · subst e
    rw [ho] at hb
    cases hb
    rw [hd] at hq
    cases hq
theorem KeyAt.same {h h':Heap} {u v:Value} {d e:D} (k:KeyAt h u d) (k':KeyAt h' v e) (q:eqd d e=true):d=e:=eqd_same 8 (keyOk_iff k.1).1 (keyOk_iff k'.1).1 q
noncomputable def SizeOk (t:SetTable) (n:Nat):Prop:=t.mask=7∧n≤4∨t.mask=31∧n≤18∨t.mask=127∧n≤76
noncomputable def LedOk (w:World) (t:SetTable):Prop:=(w.params.followText "set-order"=false→t.led=true)∧t.plain=true
noncomputable def SetIn (Pv:Value→D→Prop) (w:World) (h:Heap) (a:Addr) (ds:List D):Prop:=∃ es t,SetAt Pv w h a es t ds∧SizeOk t es.size∧LedOk w t
theorem TabOk.plain {hs:Nat→Int} {t:SetTable} (k:TabOk hs t):TabOk hs { t with plain:=false }:=⟨k.rise,k.nod,k.bd,k.odd,k.full,k.room,k.reach⟩
theorem TabOk.congr {hs hs':Nat→Int} {t:SetTable} (k:TabOk hs t) (e:∀ i,i < t.place.size→hs i=hs' i):TabOk hs' t:=
  ⟨k.rise,k.nod,k.bd,k.odd,k.full,k.room,fun i j h=>by
    rw [← e i (Array.getElem?_eq_some_iff.mp h).1]
    exact k.reach i j h⟩
noncomputable def insL {α:Type} (l:List α) (p:Nat) (x:α):List α:=(insertAt l.toArray p x).toList
theorem insL_get {α:Type} (l:List α) (p:Nat) (x:α) (h:p≤l.length) (i:Nat):(insL l p x)[i]?=if i < p then l[i]? else if i=p then some x else l[i - 1]?:=by
  unfold insL
  rw [Array.getElem?_toList,insertAt_get _ _ _ (by simpa using h)]
  simp
theorem insL_len {α:Type} (l:List α) (p:Nat) (x:α) (h:p≤l.length):(insL l p x).length=l.length + 1:=by
  unfold insL
  rw [Array.length_toList,insertAt_size _ _ _ (by simpa using h)]
  simp
theorem insL_perm {α:Type}:∀ (l:List α) (p:Nat) (x:α),p≤l.length→(insL l p x).Perm (x::l):=by
  intro l p x hp
  have e:insL l p x=l.take p++x::l.drop p:=by
    apply List.ext_getElem?
    intro i
    rw [insL_get _ _ _ hp,List.getElem?_append]
    have hl:(l.take p).length=p:=by rw [List.length_take]; lia
    rw [hl]
    by_cases h1:i < p
    · rw [if_pos h1,if_pos h1,List.getElem?_take_of_lt h1]
    · rw [if_neg h1,if_neg h1]
      by_cases h2:i=p
      · subst h2; simp
      · rw [if_neg h2]
        obtain ⟨k,hk⟩:∃ k,i - p=k + 1:=⟨i - p - 1,by lia⟩
        rw [hk,List.getElem?_cons_succ,List.getElem?_drop]
        congr 1
        lia
  rw [e]
  refine List.perm_middle.trans ?_
  rw [List.take_append_drop]
section
variable {Pv:Value→D→Prop} {prog:Program} {w:World} {A:Around} {E:Value→Shared→Prop} {s:Shared}
theorem SetAt.put {h h':Heap} {a:Addr} {es:Array (Int×Value)} {t:SetTable} {ds:List D} (S:SetAt Pv w h a es t ds) {x:Value} {dx:D} (hx:KeyAt h x dx) (px:Pv x dx) {N:Nat} (hN:N < 10 * turns t.mask) (he:at_ t.mask (hashD w dx) N∉t.place)
    (hb:∀ m,m < N→at_ t.mask (hashD w dx) m∈t.place) (hr:es.size + 1≤t.mask) (b:Bool)
    (ho:h'=h.update a (Obj.putSet (insertAt es (t.put (at_ t.mask (hashD w dx) N)).2 (hashD w dx,x)) (if b=true then (t.put (at_ t.mask (hashD w dx) N)).1 else { (t.put (at_ t.mask (hashD w dx) N)).1 with plain:=false }))) :
    SetAt Pv w h' a (insertAt es (t.put (at_ t.mask (hashD w dx) N)).2 (hashD w dx,x)) (if b=true then (t.put (at_ t.mask (hashD w dx) N)).1 else { (t.put (at_ t.mask (hashD w dx) N)).1 with plain:=false }) (insL ds (t.put (at_ t.mask (hashD w dx) N)).2 dx)∧∀ c,c≠a→h'.get? c=h.get? c:=by
  obtain ⟨o,ep,h1,h2,h3⟩:=S.obj
  have hT:=S.tab.put hN he hb (at_le _ _ _) (by rw [S.siz]; exact hr)
  obtain ⟨b1,_,_⟩:=below_ok S.tab.rise (at_ t.mask (hashD w dx) N)
  rw [S.siz] at b1
  have ep2:(t.put (at_ t.mask (hashD w dx) N)).2=below t.place (at_ t.mask (hashD w dx) N):=rfl
  have epl:(t.put (at_ t.mask (hashD w dx) N)).1.place.size=es.size + 1:=by
    rw [put_place,insertAt_size _ _ _ (by rw [S.siz]; exact b1),S.siz]
  rw [ep2] at ho ⊢
  generalize (t.put (at_ t.mask (hashD w dx) N)).1=t1 at *
  generalize below t.place (at_ t.mask (hashD w dx) N)=p at *
  have hd:p≤ds.length:=by rw [S.len]; exact b1
  have hoff:∀ c,c≠a→h'.get? c=h.get? c:=fun c hc=>by rw [ho]; exact Heap.get?_update_ne _ _ _ _ hc
  have hself:∀ (es':Array (Int×Value)) (t':SetTable),(h.update a (Obj.putSet es' t')).get? a=some { o with data:=.set es' (ep + 1) t' }:=fun es' t'=>by
    have:=Heap.get?_update_self (Obj.putSet es' t') h1 (by rw [putSet_of es' t' h3]; rfl)
    rw [putSet_of es' t' h3] at this; exact this
  have hT':TabOk (hsOf (insertAt es p (hashD w dx,x))) t1:=hT.congr fun i hi=>by
    unfold hsPut hsOf
    rw [insertAt_get _ _ _ b1]
    by_cases q1:i < p
    · rw [if_pos q1,if_pos q1]
    · rw [if_neg q1,if_neg q1]
      by_cases q2:i=p
      · rw [if_pos q2,if_pos q2]; rfl
      · rw [if_neg q2,if_neg q2]
  refine ⟨⟨?_,?_,?_,?_,?_,?_⟩,hoff⟩
  · rw [ho]
    exact ⟨_,_,hself _ _,h2,rfl⟩
  · cases b with
    | true=>exact hT'
    | false=>exact hT'.plain
  · rw [insertAt_size _ _ _ b1]
    cases b with
    | true=>exact epl
    | false=>exact epl
  · rw [insL_len _ _ _ hd,insertAt_size _ _ _ b1,S.len]
  · intro i e d he' hd'
    rw [insertAt_get _ _ _ b1] at he'
    rw [insL_get _ _ _ hd] at hd'
    by_cases q1:i < p
    · rw [if_pos q1] at he' hd'
      obtain ⟨z1,z2⟩:=S.its i e d he' hd'
      exact ⟨z1,z2.off h1 h3 hoff⟩
    · rw [if_neg q1] at he' hd'
      by_cases q2:i=p
      · rw [if_pos q2] at he' hd'
        cases he'; cases hd'
        exact ⟨rfl,hx.off h1 h3 hoff⟩
      · rw [if_neg q2] at he' hd'
        obtain ⟨z1,z2⟩:=S.its (i - 1) e d he' hd'
        exact ⟨z1,z2.off h1 h3 hoff⟩
  · intro i e d he' hd'
    rw [insertAt_get _ _ _ b1] at he'
    rw [insL_get _ _ _ hd] at hd'
    by_cases q1:i < p
    · rw [if_pos q1] at he' hd'
      exact S.pv i e d he' hd'
    · rw [if_neg q1] at he' hd'
      by_cases q2:i=p
      · rw [if_pos q2] at he' hd'
        cases he'; cases hd'
        exact px
      · rw [if_neg q2] at he' hd'
        exact S.pv (i - 1) e d he' hd'
end
theorem fm_get {α β:Type} {f:α→Option β}:∀ (l:List α),(∀ k∈l,(f k).isSome=true)→∀ i:Nat,(l.filterMap f)[i]?=(l[i]?).bind f
  | [],_,i=>by simp
  | a::l,h,i=>by
    obtain ⟨b,hb⟩:=Option.isSome_iff_exists.mp (h a List.mem_cons_self)
    rw [List.filterMap_cons_some hb]
    cases i with
    | zero=>simp [hb]
    | succ i=>rw [List.getElem?_cons_succ,List.getElem?_cons_succ]; exact fm_get l (fun k m=>h k (List.mem_cons_of_mem _ m)) i
theorem fm_len {α β:Type} {f:α→Option β}:∀ (l:List α),(∀ k∈l,(f k).isSome=true)→(l.filterMap f).length=l.length
  | [],_=>rfl
  | a::l,h=>by
    obtain ⟨b,hb⟩:=Option.isSome_iff_exists.mp (h a List.mem_cons_self)
    rw [List.filterMap_cons_some hb,List.length_cons,List.length_cons,fm_len l fun k m=>h k (List.mem_cons_of_mem _ m)]
theorem fm_range {α:Type} (l:List α):(List.range l.length).filterMap (fun k=>l[k]?)=l:=by
  have hs:∀ k∈List.range l.length,(l[k]?).isSome=true:=fun k hk=>by
    rw [List.getElem?_eq_getElem (List.mem_range.mp hk)]; rfl
  apply List.ext_getElem?
  intro i
  rw [fm_get _ hs]
  by_cases h:i < l.length
  · rw [List.getElem?_range h]; rfl
  · rw [List.getElem?_eq_none (by simpa using Nat.not_lt.mp h),List.getElem?_eq_none (Nat.not_lt.mp h)]; rfl
section
variable {Pv:Value→D→Prop} {prog:Program} {w:World} {A:Around} {E:Value→Shared→Prop} {s:Shared}
theorem SetAt.relay {a:Addr} {es:Array (Int×Value)} {t:SetTable} {ds:List D} (S:SetAt Pv w s.heap a es t ds) {wanted mask:Nat} (hm:sizeAbove wanted=mask + 1) (F:Full (mask + 1)) (ho:mask % 2=1) (hz:es.size≤mask) (hz':mask≤1000) {Q:Unit→Shared→Prop}
    (q:∀ es' t' ds' h',SetAt Pv w h' a es' t' ds'→t'.mask=mask→t'.led=t.led∧t'.plain=t.plain→es'.size=es.size→ds'.Perm ds→(∀ c,c≠a→h'.get? c=s.heap.get? c)→Q () { s with heap:=h' }) :
    wpAny (model prog w) A (setRelay a wanted) Q E s:=by
  obtain ⟨t',order,o1,o2,o3,o4,o5,o6,o7,_⟩:=laid_ok F ho (hashes:=es.map (·.1)) (by simpa using hz) t.finger (t.movedTo mask) t.led t.plain
  have hl:t.relaid (es.map (·.1)) wanted=some (t',order):=by
    unfold relaid
    rw [hm]
    exact o1
  have hin:∀ k∈order.toList,k < es.size:=fun k hk=>by
    have:=o4.mem_iff.mp hk
    simpa using this
  have h1:∀ k∈order.toList,(es[k]?).isSome=true:=fun k hk=>by rw [Array.getElem?_eq_getElem (hin k hk)]; rfl
  have h2:∀ k∈order.toList,(ds[k]?).isSome=true:=fun k hk=>by rw [List.getElem?_eq_getElem (by rw [S.len]; exact hin k hk)]; rfl
  have osz:order.size=es.size:=by
    have:=o4.length_eq
    simpa using this
  have esL:(order.filterMap fun k=>es[k]?).toList=order.toList.filterMap fun k=>es[k]?:=by simp
  have eget:∀ i,(order.filterMap fun k=>es[k]?)[i]?=(order[i]?).bind fun k=>es[k]?:=fun i=>by
    rw [← Array.getElem?_toList,esL,fm_get _ h1,Array.getElem?_toList]
  have esz:(order.filterMap fun k=>es[k]?).size=es.size:=by
    rw [← Array.length_toList,esL,fm_len _ h1,Array.length_toList,osz]
  obtain ⟨o,ep,k1,k2,k3⟩:=S.obj
  unfold setRelay
  refine wpAny_bind (S.state fun ep'=>?_)
  dsimp only
  rw [if_neg (by rw [hm]; show ¬ (mask + 1 > 2 ^ 24); lia),hl]
  refine wpAny_bind ?_
  show wpAny _ _ (if ((order.filterMap fun k=>es[k]?).size != es.size)=true then _ else pure ((order.filterMap fun k=>es[k]?),t')) _ _ _
  rw [if_neg (by rw [esz]; simp)]
  refine wpAny_pure ?_
  dsimp only
  have hself:∀ (es':Array (Int×Value)) (t':SetTable),(s.heap.update a (Obj.putSet es' t')).get? a=some { o with data:=.set es' (ep + 1) t' }:=fun es' t'=>by
    have:=Heap.get?_update_self (Obj.putSet es' t') k1 (by rw [putSet_of es' t' k3]; rfl)
    rw [putSet_of es' t' k3] at this; exact this
  have hoff:∀ c,c≠a→(s.heap.update a (Obj.putSet (order.filterMap fun k=>es[k]?) t')).get? c=s.heap.get? c:=fun c hc=>Heap.get?_update_ne _ _ _ _ hc
  refine wpAny_storeSet_of k1 k3 (q _ t' (order.toList.filterMap fun k=>ds[k]?) _ ⟨⟨_,_,hself _ _,k2,rfl⟩,o2.congr fun i hi=>?_,?_,?_,fun i e d he hd=>?_,fun i e d he hd=>?_⟩ o5 ⟨o6,o7⟩ esz ?_ hoff) (by rw [esz]; show es.size≤2 ^ 24; lia)
  · rw [o3] at hi
    have hi':i < order.size:=by rw [osz]; simpa using hi
    unfold hsOf
    rw [eget i,Array.getElem?_eq_getElem hi']
    simp [Array.getD_eq_getD_getElem?,Array.getElem?_eq_getElem hi']
  · rw [o3,esz]; simp
  · rw [fm_len _ h2,esz,Array.length_toList,osz]
  · rw [eget i] at he
    rw [fm_get _ h2,Array.getElem?_toList] at hd
    cases z:order[i]? with
    | none=>rw [z] at he; cases he
    | some k=>
      rw [z] at he hd
      obtain ⟨z1,z2⟩:=S.its k e d he hd
      exact ⟨z1,z2.off k1 k3 hoff⟩
  · rw [eget i] at he
    rw [fm_get _ h2,Array.getElem?_toList] at hd
    cases z:order[i]? with
    | none=>rw [z] at he; cases he
    | some k=>
      rw [z] at he hd
      exact S.pv k e d he hd
  · have p:=List.Perm.filterMap (fun k=>ds[k]?) o4
    have e:(es.map (·.1)).size=ds.length:=by rw [Array.size_map,S.len]
    rw [e,fm_range] at p
    exact p
end
theorem eqd_self {d:D} (h:keyOk d=true):eqd d d=true:=PySem.SeqAt.eqv_refl _ (okN_lay 8 d (keyOk_iff h).2.1).1
theorem fill_of {hs:Nat→Int} {t:SetTable} (k:TabOk hs t):t.fill=t.place.size:=by unfold SetTable.fill; rw [k.nod]; rfl
theorem sa20:sizeAbove (grown 5)=31 + 1:=by decide +kernel
theorem sa76:sizeAbove (grown 19)=127 + 1:=by decide +kernel
section
variable {Pv:Value→D→Prop} {prog:Program} {w:World} {A:Around} {E:Value→Shared→Prop} {s:Shared}
theorem add_hashed {a:Addr} {ds:List D} (S:SetIn Pv w s.heap a ds) {x:Value} {dx:D} (hx:KeyAt s.heap x dx) (px:Pv x dx) (hu:A.units + 64 < cLine) (hn:ds.length < 70) {f:Nat} {Q:Bool→Shared→Prop} (q0:dx∈ds→Q false s)
    (q1:dx∉ds→∀ ds' h',SetIn Pv w h' a ds'→ds'.Perm (dx::ds)→(∀ c,c≠a→h'.get? c=s.heap.get? c)→Q true { s with heap:=h' }) :
    wpAny (model prog w) A (setAddHashedIn a x (hashD w dx) (f + 1)) Q E s:=by
  obtain ⟨es,t,S,sz,ld⟩:=S
  have hk:∀ d∈ds,∃ u,KeyAt s.heap u d:=fun d hd=>by
    obtain ⟨i,hi,e⟩:=List.getElem_of_mem hd
    have hi':i < es.size:=by rw [← S.len]; exact hi
    exact ⟨_,(S.its i _ d (Array.getElem?_eq_getElem hi') (by rw [List.getElem?_eq_getElem hi,e])).2⟩
  have hsame:∀ d∈ds,eqd d dx=true→d=dx:=fun d hd q=>by
    obtain ⟨u,k⟩:=hk d hd
    exact k.same hx q
  obtain ⟨ax,rfl⟩:=hx.ref
  have hlt:es.size < 70:=by rw [← S.len]; exact hn
  have hmask:es.size + 1≤t.mask∧t.mask≤127:=by
    rcases sz with ⟨h1,h2⟩ | ⟨h1,h2⟩ | ⟨h1,h2⟩ <;> lia
  obtain ⟨N,N1,N2⟩:=S.tab.empty (hashD w dx)
  unfold setAddHashedIn
  refine wpAny_bind (S.state fun ep=>?_)
  dsimp only
  have hb:byScan (.ref ax) es=false:=rfl
  rw [hb,if_neg Bool.false_ne_true]
  refine wpAny_bind ?_
  unfold setSearch
  refine search_from S hx hu N1 N2 (fun d hd q=>by rw [hsame d hd q]) (fun d hd q=>?_) (fun m m1 m2 m3 m4=>?_) 100000 0 none rfl (Nat.zero_le _) ?_ (fun l hl=>absurd hl (Nat.not_lt_zero _))
  · exact wpAny_pure (q0 (by rw [← hsame d hd q]; exact hd))
  · have hni:dx∉ds:=fun hd=>by
      have:=m4 dx hd
      rw [eqd_self hx.1] at this
      cases this
    have hmN:m < 10 * turns t.mask:=by lia
    refine wpAny_bind (S.state fun ep=>?_)
    dsimp only
    obtain ⟨b1,_,_⟩:=below_ok S.tab.rise (at_ t.mask (hashD w dx) m)
    rw [S.siz] at b1
    have tail:wpAny (model prog w) A (do
        storeSet a (insertAt es (t.put (at_ t.mask (hashD w dx) m)).2 (hashD w dx,Value.ref ax)) (t.put (at_ t.mask (hashD w dx) m)).1
        if (!false&&(t.put (at_ t.mask (hashD w dx) m)).1.tooFull)=true then (do
          setRelay a (grown (es.size + 1))
          pure true) else pure true) Q E s:=by
      obtain ⟨S',hoff⟩:=S.put hx px hmN m2 m3 hmask.1 true rfl
      obtain ⟨o,ep',k1,k2,k3⟩:=S.obj
      have hp:(t.put (at_ t.mask (hashD w dx) m)).2≤ds.length:=by rw [S.len]; exact b1
      have pm:=insL_perm ds _ dx hp
      have hmk:(t.put (at_ t.mask (hashD w dx) m)).1.mask=t.mask:=rfl
      have ld':LedOk w (t.put (at_ t.mask (hashD w dx) m)).1:=ld
      rw [if_pos rfl] at S'
      have hsz:(insertAt es (t.put (at_ t.mask (hashD w dx) m)).2 (hashD w dx,Value.ref ax)).size=es.size + 1:=insertAt_size _ _ _ b1
      generalize (t.put (at_ t.mask (hashD w dx) m)).1=tb at *
      generalize insertAt es (t.put (at_ t.mask (hashD w dx) m)).2 (hashD w dx,Value.ref ax)=es1 at *
      generalize insL ds (t.put (at_ t.mask (hashD w dx) m)).2 dx=ds1 at *
      have hfl:tb.fill=es.size + 1:=by rw [fill_of S'.tab,S'.siz,hsz]
      refine wpAny_bind (wpAny_storeSet_of k1 k3 ?_ (by rw [hsz]; show es.size + 1≤2 ^ 24; lia))
      have again:∀ mask:Nat,sizeAbove (grown (es.size + 1))=mask + 1→Full (mask + 1)→mask % 2=1→es.size + 1≤mask→mask≤1000→(∀ t':SetTable,t'.mask=mask→SizeOk t' (es.size + 1))→
          wpAny (model prog w) A (do
            setRelay a (grown (es.size + 1))
            pure true) Q E { s with heap:=s.heap.update a (Obj.putSet es1 tb) }:=by
        intro mask c1 c2 c3 c4 c5 c6
        refine wpAny_bind (SetAt.relay (s:={ s with heap:=s.heap.update a (Obj.putSet es1 tb) }) S' c1 c2 c3 (by rw [hsz]; exact c4) c5 fun es' t' ds' h' S2 z1 zl z2 z3 z4=>?_)
        refine wpAny_pure (q1 hni ds' h' ⟨es',t',S2,?_,fun z=>zl.1.trans (ld'.1 z),zl.2.trans ld'.2⟩ (z3.trans pm) fun c hc=>(z4 c hc).trans (hoff c hc))
        rw [z2,hsz]
        exact c6 t' z1
      have stay:SizeOk tb (es.size + 1)→Q true { s with heap:=s.heap.update a (Obj.putSet es1 tb) }:=fun h=>q1 hni ds1 _ ⟨es1,tb,S',by rw [hsz]; exact h,ld'⟩ pm hoff
      have tf:tb.tooFull=decide ((es.size + 1) * 5 ≥ t.mask * 3):=by unfold tooFull; rw [hfl,hmk]
      rw [tf,Bool.not_false,Bool.true_and]
      rcases sz with ⟨h1,h2⟩ | ⟨h1,h2⟩ | ⟨h1,h2⟩
      · rw [h1]
        rcases Nat.lt_or_ge es.size 4 with z | z
        · rw [if_neg (by simp; lia)]
          exact wpAny_pure (stay (.inl ⟨hmk.trans h1,by lia⟩))
        · have e4:es.size=4:=by lia
          rw [if_pos (by simp; lia)]
          exact again 31 (by rw [e4]; exact sa20) full32 rfl (by lia) (by lia) fun t' h=>.inr (.inl ⟨h,by lia⟩)
      · rw [h1]
        rcases Nat.lt_or_ge es.size 18 with z | z
        · rw [if_neg (by simp; lia)]
          exact wpAny_pure (stay (.inr (.inl ⟨hmk.trans h1,by lia⟩)))
        · have e4:es.size=18:=by lia
          rw [if_pos (by simp; lia)]
          exact again 127 (by rw [e4]; exact sa76) full128 rfl (by lia) (by lia) fun t' h=>.inr (.inr ⟨h,by lia⟩)
      · rw [h1,if_neg (by simp; lia)]
        exact wpAny_pure (stay (.inr (.inr ⟨hmk.trans h1,by lia⟩)))
    obtain ⟨as,rx⟩:=hx.2
    split
    · exact wpAny_bind (byval_ok 8 8 (Nat.le_refl _) (keyOk_iff hx.1).1 rx tail)
    · exact wpAny_bind (wpAny_pure tail)
  · have:turns t.mask=t.mask + 15:=rfl
    lia
end
noncomputable def dedD (ds:List D):List D:=ds.foldl (fun acc d=>open Classical in if d∈acc then acc else acc++[d]) []
theorem dedD_snoc (ds:List D) (d:D):dedD (ds++[d])=(open Classical in if d∈dedD ds then dedD ds else dedD ds++[d]):=by
  unfold dedD
  rw [List.foldl_append]
  rfl
theorem dedD_len (ds:List D):(dedD ds).length≤ds.length:=by
  have:∀ n,∀ ds:List D,ds.length=n→(dedD ds).length≤n:=by
    intro n
    induction n with
    | zero=>intro ds h; rw [List.length_eq_zero_iff.mp h]; exact Nat.le_refl _
    | succ n ih=>
      intro ds h
      have hne:ds≠[]:=fun e=>by rw [e] at h; cases h
      rw [← List.dropLast_concat_getLast hne,dedD_snoc]
      have:=ih ds.dropLast (by rw [List.length_dropLast]; lia)
      split
      · lia
      · rw [List.length_append,List.length_singleton]; lia
  exact this _ ds rfl
noncomputable def SetHas (Pv:Value→D→Prop) (w:World) (h:Heap) (a:Addr) (ds:List D):Prop:=∃ ds',SetIn Pv w h a ds'∧ds'.Perm (dedD ds)
theorem SetHas.move {Pv:Value→D→Prop} {w:World} {h h':Heap} {a:Addr} {ds:List D} (S:SetHas Pv w h a ds) (ha:∀ o,h.get? a=some o→h'.get? a=some o) (hk:∀ b o vs n,h.get? b=some o→o.data=.seq vs n→h'.get? b=some o):SetHas Pv w h' a ds:=by
  obtain ⟨ds',⟨es,t,S,sz,ld⟩,p⟩:=S
  refine ⟨ds',⟨es,t,⟨?_,S.tab,S.siz,S.len,fun i e d he hd=>?_,S.pv⟩,sz,ld⟩,p⟩
  · obtain ⟨o,ep,h1,h2,h3⟩:=S.obj
    exact ⟨o,ep,ha o h1,h2,h3⟩
  · obtain ⟨z1,z2,as,z3⟩:=S.its i e d he hd
    exact ⟨z1,z2,as,reads_off hk 8 (keyOk_iff z2).1 z3⟩
section
variable {Pv:Value→D→Prop} {prog:Program} {w:World} {A:Around} {R:Result→Shared→Prop} {I:Addr} {fp wr:List Addr} {G:Array GenState→Array GenState→Prop} {n:Nat} {P:Nat→Value→Prop} {St:Nat→Shared→Prop}
theorem add_has {E:Value→Shared→Prop} {s:Shared} {a:Addr} {ds:List D} (S:SetHas Pv w s.heap a ds) {x:Value} {dx:D} (hx:KeyAt s.heap x dx) (px:Pv x dx) (hu:A.units + 64 < cLine) (hn:ds.length < 70) {Q:Bool→Shared→Prop}
    (q:∀ b h' tk,s.toks≤tk→SetHas Pv w h' a (ds++[dx])→(∀ c,c≠a→h'.get? c=s.heap.get? c)→Q b { s with heap:=h',toks:=tk }) :
    wpAny (model prog w) A (setAdd a x) Q E s:=by
  obtain ⟨ds',S,p⟩:=S
  obtain ⟨as,rx⟩:=hx.2
  unfold setAdd
  refine wpAny_holding (wpAny_bind (hash_ok 8 (by lia) (keyOk_iff hx.1).1 rx fun tk htk=>?_))
  unfold setAddHashed
  refine wpAny_holding ?_
  have hl:ds'.length < 70:=by rw [p.length_eq]; exact Nat.lt_of_le_of_lt (dedD_len ds) hn
  refine add_hashed (s:={ s with toks:=tk }) (f:=99999) S hx px hu hl (fun hd=>?_) fun hd ds2 h' S2 p2 off=>?_
  · refine q false s.heap tk htk ⟨ds',S,?_⟩ fun c _=>rfl
    rw [dedD_snoc,if_pos (p.mem_iff.mp hd)]
    exact p
  · refine q true h' tk htk ⟨ds2,S2,?_⟩ off
    rw [dedD_snoc,if_neg (fun z=>hd (p.mem_iff.mpr z))]
    exact p2.trans ((List.Perm.cons dx p).trans (List.perm_append_singleton dx _).symm)
theorem set_loop (W:WalksS prog w A.in1 I fp wr G n P St) (S:Addr) (hSf:S∉fp) (h0:Heap) (hnew:∀ b o,h0.get? b=some o→b∉S::wr)
    (hI:∀ i s,St i s→∀ b∈wr,∀ o vs k,s.heap.get? b=some o→o.data≠.seq vs k)
    (ds:List D) (hn:ds.length=n) (hn70:n < 70) (hval:∀ i v,P i v→∃ d,ds[i]?=some d∧KeyAt h0 v d∧Pv v d) (hu:A.units + 70 < cLine) :
    ∀ (k i:Nat) (s:Shared),n - i=k→i≤n→St i s→(∀ b o,h0.get? b=some o→s.heap.get? b=some o)→SetHas Pv w s.heap S (ds.take i)→
      (∀ s',Moved (S::wr) G s s'→SetHas Pv w s'.heap S ds→R (.ok (.ret .none)) s')→
      codeAny (model prog w) A (.builtin "set.update.loop" ⟨[.ref S,.ref I],[]⟩) R s:=by
  have hSw:S∉wr:=fun h=>hSf (W.sub _ h)
  have hsub:∀ b∈wr,b∈S::wr:=fun b hb=>List.mem_cons_of_mem _ hb
  have mv:∀ {i:Nat} {s s':Shared} {l:List D},St i s→Moved wr G s s'→SetHas Pv w s.heap S l→SetHas Pv w s'.heap S l:=fun st m h=>
    h.move (fun o e=>m.heap S o hSw e) fun b o vs k e z=>m.heap b o (fun hb=>hI _ _ st b hb o vs k e z) e
  intro k
  induction k with
  | zero=>
    intro i s hk hi hst h0s hS hR
    have hin:i=n:=by lia
    subst hin
    refine codeAny_builtin F.entry_set_update_loop ?_
    rw [Around.under_plainId F.plain_set_update_loop _]
    show wpAny _ A.in1 (pyNext (.ref I)>>=_) _ _ s
    refine wpAny_bind (W.done s _ _ hst fun s' hm=>?_)
    show wpAny _ A.in1 (ret Value.none) _ _ s'
    refine wpAny_pure (hR s' (hm.mono hsub) (mv hst hm ?_))
    rw [← hn,List.take_length] at hS
    exact hS
  | succ k ih=>
    intro i s hk hi hst h0s hS hR
    have hlt:i < n:=by lia
    refine codeAny_builtin F.entry_set_update_loop ?_
    rw [Around.under_plainId F.plain_set_update_loop _]
    show wpAny _ A.in1 (pyNext (.ref I)>>=_) _ _ s
    refine wpAny_bind (W.item i s _ _ hlt hst fun v s' hP hst' hm=>?_)
    obtain ⟨d,hd,kv,pv⟩:=hval i v hP
    have h0s':∀ b o,h0.get? b=some o→s'.heap.get? b=some o:=fun b o e=>hm.heap b o (fun hb=>hnew b o e (hsub b hb)) (h0s b o e)
    show wpAny _ A.in1 (holding [v] (setAdd S v)>>=_) _ _ s'
    refine wpAny_bind (wpAny_holding (add_has (mv hst hm hS) (kv.keeps h0s') pv (by show A.units + 1 + 64 < cLine; lia) (by rw [List.length_take]; lia) fun b h' tk htk hS2 off=>?_))
    have et:ds.take i++[d]=ds.take (i + 1):=by rw [List.take_add_one,hd]; rfl
    rw [et] at hS2
    refine wpAny_pure ⟨plainId_quiet F.plain_set_update_loop _,ih (i + 1) _ (by lia) hlt (W.frame _ s' _ _ hst' htk fun b hb o e=>?_) (fun b o e=>?_) hS2 fun s'' hm'' hS''=>?_⟩
    · rw [off b (fun h:b=S=>hSf (by rw [← h]; exact hb))]; exact e
    · show h'.get? b=some o
      rw [off b (fun h:b=S=>hnew b o e (by rw [h]; exact List.mem_cons_self))]; exact h0s' b o e
    · refine hR s'' (Moved.trans W.gtrans ((hm.mono hsub).then_heap htk fun b o hb e=>?_) hm'') hS''
      rw [off b (fun h:b=S=>hb (by rw [h]; exact List.mem_cons_self))]; exact e
end
theorem pick_go {α:Type} (next:Nat→Nat):∀ (f k:Nat) (left:List α) (out:Array α),left.length≤f→(pickOrder.go next f k left out).toList.Perm (out.toList++left):=by
  intro f
  induction f with
  | zero=>
    intro k left out h
    obtain rfl:left=[]:=List.length_eq_zero_iff.mp (by lia)
    rw [List.append_nil]
    exact List.Perm.refl _
  | succ f ih=>
    intro k left out h
    unfold pickOrder.go
    split
    · rename_i x hx
      obtain ⟨hl,ex⟩:=List.getElem?_eq_some_iff.mp hx
      refine (ih (k + 1) _ _ (by rw [List.length_eraseIdx_of_lt hl]; lia)).trans ?_
      rw [Array.toList_push,List.append_assoc,← ex]
      refine List.Perm.append_left _ ?_
      show ((left[next k % left.length]::left.eraseIdx (next k % left.length))).Perm left
      rw [List.eraseIdx_eq_take_drop_succ]
      have:=List.take_append_drop (next k % left.length) left
      refine List.Perm.trans ?_ (List.Perm.of_eq this)
      rw [List.drop_eq_getElem_cons hl]
      exact List.perm_middle.symm
    · rename_i hx
      have hz:left.length=0:=by
        rcases Nat.eq_zero_or_pos left.length with z | z
        · exact z
        · have:=List.getElem?_eq_none_iff.mp hx
          have:=Nat.mod_lt (next k) z
          lia
      obtain rfl:left=[]:=List.length_eq_zero_iff.mp hz
      rw [List.append_nil]
theorem pick_perm {α:Type} (next:Nat→Nat) (xs:Array α):(pickOrder next xs).toList.Perm xs.toList:=by
  have:=pick_go next xs.size 0 xs.toList #[] (by simp)
  simpa [pickOrder] using this
noncomputable def ordS (w:World) (S:Addr) (ep:Nat) (es:Array (Int×Value)):Array (Int×Value):=if w.params.followText "set-order"=true then pickOrder (w.params.setOrder S ep) es else es
theorem ordS_perm (w:World) (S:Addr) (ep:Nat) (es:Array (Int×Value)):(ordS w S ep es).toList.Perm es.toList:=by
  unfold ordS
  split
  · exact pick_perm _ _
  · exact List.Perm.refl _
theorem ordS_size (w:World) (S:Addr) (ep:Nat) (es:Array (Int×Value)):(ordS w S ep es).size=es.size:=by
  have:=(ordS_perm w S ep es).length_eq
  simpa using this
structure SObj (w:World) (h:Heap) (S:Addr) (es:Array (Int×Value)) (ep:Nat) (t:SetTable):Prop where
  obj:∃ o,h.get? S=some o∧o.cls=.type "set"∧o.data=.set es ep t
  fits:t.fits es.size=true
  siz:t.place.size=es.size
  rise:Rising t.place
  led:w.params.followText "set-order"=false→t.led=true
  plain:t.plain=true
noncomputable def SiAt (h:Heap) (I S:Addr) (slot i n ep:Nat):Prop:=∃ o,h.get? I=some o∧o.cls=.type "set_iterator"∧o.data=.fields #[.int slot 0,.int i 0,.ref S,.int n 0,.int ep 0]
theorem slot_si_next:Slot "set_iterator" "__next__" "set_iterator.__next__":=.of (owner := "set_iterator") (n := "__next__") (by rw [typeLookup_type,builtinLookup_eq_fast]; kernel_rfl) (by decide +kernel) (by decide +kernel) (by decide +kernel) (by first | exact .inl (by decide +kernel) | exact .inr (by decide +kernel)) (by rw [isSubtype_type]; kernel_rfl)
theorem entry_si_next:entryFor table "set_iterator.__next__"=some Builtin.«set_iterator.__next__»:=entryFor_of_fast (by kernel_rfl)
theorem args_si_next (x:Value):argsOk "set_iterator.__next__" ⟨[x],[]⟩:=by unfold argsOk; kernel_rfl
theorem slot_si_iter:Slot "set_iterator" "__iter__" "set_iterator.__iter__":=.of (owner := "set_iterator") (n := "__iter__") (by rw [typeLookup_type,builtinLookup_eq_fast]; kernel_rfl) (by decide +kernel) (by decide +kernel) (by decide +kernel) (by first | exact .inl (by decide +kernel) | exact .inr (by decide +kernel)) (by rw [isSubtype_type]; kernel_rfl)
theorem entry_si_iter:entryFor table "set_iterator.__iter__"=some Builtin.«dict_keyiterator.__iter__»:=entryFor_alias (id' := "dict_keyiterator.__iter__") (by kernel_rfl) (by rfl) (by decide +kernel) (by kernel_rfl)
theorem args_si_iter (x:Value):argsOk "set_iterator.__iter__" ⟨[x],[]⟩:=by unfold argsOk; kernel_rfl
theorem entry_s_iter:entryFor table "set.__iter__"=some Builtin.«frozenset.__iter__»:=entryFor_alias (id' := "frozenset.__iter__") (by kernel_rfl) (by rfl) (by decide +kernel) (by kernel_rfl)
theorem isSub_stop:isSubtype (.type "StopIteration") (.type "StopIteration")=pure true:=by rw [isSubtype_type]; kernel_rfl
section
variable {prog:Program} {w:World} {A:Around} {E:Value→Shared→Prop} {s:Shared}
variable {S I:Addr} {es:Array (Int×Value)} {ep:Nat} {t:SetTable}
theorem SObj.state (K:SObj w s.heap S es ep t) {Q:(Array (Int×Value)×Nat×SetTable)→Shared→Prop} (h:Q (es,ep,t) s):wpAny (model prog w) A (setState S) Q E s:=by
  obtain ⟨o,h1,h2,h3⟩:=K.obj
  exact wpAny_setState_of h1 h3 K.fits h
theorem SObj.entries (K:SObj w s.heap S es ep t) {Q:Array (Int×Value)→Shared→Prop} (h:Q es s):wpAny (model prog w) A (setEntries S) Q E s:=by
  unfold setEntries
  exact wpAny_bind (K.state (wpAny_pure h))
theorem SObj.epoch (K:SObj w s.heap S es ep t) {Q:Nat→Shared→Prop} (h:Q ep s):wpAny (model prog w) A (setEpoch S) Q E s:=by
  unfold setEpoch
  exact wpAny_bind (K.state (wpAny_pure h))
theorem by_text {Q:Bool→Shared→Prop} (h:Q (w.params.followText "set-order") s):wpAny (model prog w) A setsByText Q E s:=by
  unfold setsByText
  exact wpAny_bind (wpAny_askSetting (wpAny_pure h))
theorem next_of (K:SObj w s.heap S es ep t) {slot i:Nat} (hs:w.params.followText "set-order"=false→below t.place slot=i) {Q:Option (Value×Nat)→Shared→Prop}
    (h1:∀ e slot',(ordS w S ep es)[i]?=some e→(w.params.followText "set-order"=false→below t.place slot'=i + 1)→Q (some (e.2,slot')) s) (h2:(ordS w S ep es)[i]?=none→Q none s) :
    wpAny (model prog w) A (setNext S slot i ep) Q E s:=by
  unfold setNext
  refine wpAny_bind (K.state ?_)
  dsimp only
  refine wpAny_bind (by_text ?_)
  cases hb:w.params.followText "set-order" with
  | true=>
    rw [if_pos rfl,if_neg (by simp)]
    refine wpAny_bind ?_
    unfold setWalk
    refine wpAny_bind (K.state ?_)
    dsimp only
    refine wpAny_bind (by_text ?_)
    rw [hb,if_pos rfl]
    refine wpAny_bind (wpAny_askSetting (wpAny_pure (wpAny_pure ?_)))
    have eo:ordS w S ep es=pickOrder (w.params.setOrder S ep) es:=by unfold ordS; rw [if_pos hb]
    show Q (((pickOrder (w.params.setOrder S ep) es)[i]?).map fun e=>(e.2,slot)) s
    rw [← eo]
    cases q:(ordS w S ep es)[i]? with
    | none=>exact h2 q
    | some e=>exact h1 e slot q fun z=>by rw [hb] at z; cases z
  | false=>
    rw [if_neg Bool.false_ne_true]
    have eo:ordS w S ep es=es:=by unfold ordS; rw [if_neg (by rw [hb]; exact Bool.false_ne_true)]
    rw [eo] at h1 h2
    have hd:((!t.plain)&&decide (es.size > 1))=false:=by rw [K.plain]; rfl
    have hl:=K.led hb
    have hi:=hs hb
    show wpAny _ _ (if ((!t.plain)&&decide (es.size > 1))=true then _ else _) _ _ _
    rw [hd,if_neg Bool.false_ne_true]
    refine wpAny_bind ?_
    show wpAny _ _ (if ((!t.led)&&!es.isEmpty)=true then _ else _) _ _ _
    rw [hl,if_neg (by simp)]
    refine wpAny_pure ?_
    show wpAny _ _ (pure (match es[below t.place slot]?,t.place[below t.place slot]? with
      | some (_,x),some j=>some (x,j + 1)
      | _,_=>none)) _ _ _
    rw [hi]
    refine wpAny_pure ?_
    cases q:es[i]? with
    | none=>exact h2 q
    | some e=>
      have hlt:i < t.place.size:=by rw [K.siz]; exact (Array.getElem?_eq_some_iff.mp q).1
      rw [Array.getElem?_eq_getElem hlt]
      refine h1 e (t.place[i] + 1) q fun _=>?_
      obtain ⟨b1,b2,b3⟩:=below_ok K.rise (t.place[i] + 1)
      generalize below t.place (t.place[i] + 1)=b at b1 b2 b3
      rcases Nat.lt_trichotomy b (i + 1) with z | z | z
      · have:=b3 i hlt (by lia)
        lia
      · exact z
      · have h':i + 1 < t.place.size:=by lia
        have g1:=b2 (i + 1) h' z
        have g2:=K.rise.lt i (i + 1) hlt h' (by lia)
        lia
end
section
variable {prog:Program} {w:World} {A:Around} {E:Value→Shared→Prop} {s:Shared}
variable {S I:Addr} {es:Array (Int×Value)} {ep:Nat} {t:SetTable}
theorem SObj.at {h h':Heap} (K:SObj w h S es ep t) (k:∀ o,h.get? S=some o→h'.get? S=some o):SObj w h' S es ep t:=by
  obtain ⟨o,h1,h2,h3⟩:=K.obj
  exact ⟨⟨o,k o h1,h2,h3⟩,K.fits,K.siz,K.rise,K.led,K.plain⟩
theorem si_item {slot i:Nat} (hit:SiAt s.heap I S slot i es.size ep) (K:SObj w s.heap S es ep t) (hs:w.params.followText "set-order"=false→below t.place slot=i) {e:Int×Value} (he:(ordS w S ep es)[i]?=some e) {Q:Option Value→Shared→Prop}
    (q:∀ h' slot',SiAt h' I S slot' (i + 1) es.size ep→(w.params.followText "set-order"=false→below t.place slot'=i + 1)→(∀ b,b≠I→h'.get? b=s.heap.get? b)→Q (some e.2) { s with heap:=h' }) :
    wpAny (model prog w) A (pyNext (.ref I)) Q E s:=by
  obtain ⟨o,ho,hc,hd⟩:=id hit
  have hT:s.TypeIs (.ref I) "set_iterator":=⟨o,ho,hc⟩
  unfold pyNext
  refine wpAny_bind (wpAny_attempt (wpAny_callSpecial?_slot (name:=Str.ofString "__next__") hT slot_si_next (wpAny_call_entry slot_si_next hT entry_si_next ?_ (args_si_next _))))
  unfold Builtin.«set_iterator.__next__»
  refine wpAny_bind (wpAny_pure ?_)
  refine wpAny_bind (wpAny_fieldsOf ho hd ?_)
  show wpAny _ _ (setEntries S>>=_) _ _ s
  refine wpAny_bind (K.entries ?_)
  rw [if_neg (by simp)]
  show wpAny _ _ (setNext S ((slot:Int).toNat) ((i:Int).toNat) ((ep:Int).toNat)>>=_) _ _ s
  rw [Int.toNat_natCast,Int.toNat_natCast,Int.toNat_natCast]
  refine wpAny_bind (next_of K hs (fun e' slot' he' hs'=>?_) fun z=>by rw [he] at z; cases z)
  rw [he] at he'
  cases he'
  show wpAny _ _ (setField (.ref I) 0 (rawInt (slot':Nat))>>=_) _ _ s
  refine wpAny_bind (wpAny_setField ho hd (by simp) ?_)
  have ho2:=Heap.get?_update_self (Obj.mapFields (·.setIfInBounds 0 (rawInt ((slot':Nat):Int)))) ho (Obj.isFreed_of_fields (Obj.data_mapFields hd _))
  have hd2:=Obj.data_mapFields hd (·.setIfInBounds 0 (rawInt ((slot':Nat):Int)))
  refine wpAny_bind (wpAny_setField ho2 hd2 (by simp) ?_)
  have ho3:=Heap.get?_update_self (Obj.mapFields (·.setIfInBounds 1 (rawInt ((i:Int) + 1)))) ho2 (Obj.isFreed_of_fields (Obj.data_mapFields hd2 _))
  have hd3:=Obj.data_mapFields hd2 (·.setIfInBounds 1 (rawInt ((i:Int) + 1)))
  refine wpAny_pure ⟨_,rfl,wpAny_pure (q _ slot' ⟨_,ho3,?_,?_⟩ hs' fun b hb=>?_)⟩
  · rw [Obj.cls_mapFields,Obj.cls_mapFields]; exact hc
  · rw [hd3]; simp [rawInt]
  · rw [Heap.get?_update_ne _ _ _ _ hb,Heap.get?_update_ne _ _ _ _ hb]
theorem si_done {slot i:Nat} (nh:A.handled=none) (hit:SiAt s.heap I S slot i es.size ep) (K:SObj w s.heap S es ep t) (hs:w.params.followText "set-order"=false→below t.place slot=i) (he:(ordS w S ep es)[i]?=none) {Q:Option Value→Shared→Prop}
    (q:∀ h',(∀ b o,b≠I→s.heap.get? b=some o→h'.get? b=some o)→Q none { s with heap:=h' }):wpAny (model prog w) A (pyNext (.ref I)) Q E s:=by
  obtain ⟨o,ho,hc,hd⟩:=id hit
  have hT:s.TypeIs (.ref I) "set_iterator":=⟨o,ho,hc⟩
  unfold pyNext
  refine wpAny_bind (wpAny_attempt (wpAny_callSpecial?_slot (name:=Str.ofString "__next__") hT slot_si_next (wpAny_call_entry slot_si_next hT entry_si_next ?_ (args_si_next _))))
  unfold Builtin.«set_iterator.__next__»
  refine wpAny_bind (wpAny_pure ?_)
  refine wpAny_bind (wpAny_fieldsOf ho hd ?_)
  show wpAny _ _ (setEntries S>>=_) _ _ s
  refine wpAny_bind (K.entries ?_)
  rw [if_neg (by simp)]
  show wpAny _ _ (setNext S ((slot:Int).toNat) ((i:Int).toNat) ((ep:Int).toNat)>>=_) _ _ s
  rw [Int.toNat_natCast,Int.toNat_natCast,Int.toNat_natCast]
  refine wpAny_bind (next_of K hs (fun e' slot' he' hs'=>by rw [he] at he'; cases he') fun _=>?_)
  show wpAny _ _ (setField (.ref I) 2 .none>>=_) _ _ s
  refine wpAny_bind (wpAny_setField ho hd (by simp) ?_)
  show wpAny _ _ (newExc (.type "StopIteration") []>>=_) _ _ _
  refine wpAny_bind ?_; simp only [newExc,newTuple]
  refine wpAny_bind (wpAny_newObj_type (wpAny_bind (m:=firstArgMember _ _) (wpAny_of_eq (a:=Value.none) (by first | rfl | (simp only [firstArgMember]; rfl)) ?_)) (by size_fits))
  refine wpAny_newObj_type ?_ (by size_fits); simp only [raiseNew]
  refine wpAny_bind (wpAny_handled ?_)
  rw [show A.in1.handled=none from nh]
  refine wpAny_bind (wpAny_pure (wpAny_throw ?_))
  refine wpAny_bind (wpAny_isInstance (b:=true) (T := "StopIteration") ⟨_,Heap.get?_push_size _ rfl,rfl⟩ isSub_stop ?_)
  exact wpAny_pure (q _ fun b o hb e=>(((Heap.SameBut.update ..).extBut.push _).push _) b o hb e)
theorem walks_si (nh:A.handled=none) (hne:S≠I) (hl:es.size≤sizeLine):Walks prog w A I [I,S] [I] es.size (fun i v=>∃ e,(ordS w S ep es)[i]?=some e∧v=e.2)
    (fun i h=>(∃ slot,SiAt h I S slot i es.size ep∧(w.params.followText "set-order"=false→below t.place slot=i))∧SObj w h S es ep t) where
  sub:=fun b hb=>by simp at hb; simp [hb]
  frame:=fun i h h' st hk=>by
    obtain ⟨⟨slot,⟨o,h1,h2,h3⟩,hs⟩,K⟩:=st
    exact ⟨⟨slot,⟨o,hk I (by simp) o h1,h2,h3⟩,hs⟩,K.at fun o e=>hk S (by simp) o e⟩
  item:=fun i s Q E hi st hQ=>by
    obtain ⟨⟨slot,hit,hs⟩,K⟩:=st
    have hi':i < (ordS w S ep es).size:=by rw [ordS_size]; exact hi
    have he:(ordS w S ep es)[i]?=some (ordS w S ep es)[i]:=Array.getElem?_eq_getElem hi'
    refine si_item hit K hs he fun h' slot' hit' hs' hk=>?_
    exact hQ _ h' s.toks ⟨_,he,rfl⟩ ⟨⟨slot',hit',hs'⟩,K.at fun o e=>(hk S hne).trans e⟩ fun b o hb e=>(hk b (fun z=>hb (by simp [z]))).trans e
  done:=fun s Q E st hQ=>by
    obtain ⟨⟨slot,hit,hs⟩,K⟩:=st
    refine si_done nh hit K hs (Array.getElem?_eq_none (by rw [ordS_size]; exact Nat.le_refl _)) fun h' hk=>?_
    exact hQ h' s.toks fun b o hb e=>hk b o (fun z=>hb (by simp [z])) e
  self:=fun i s Q E st hQ=>by
    obtain ⟨⟨slot,⟨o,h1,h2,h3⟩,hs⟩,K⟩:=st
    have hT:s.TypeIs (.ref I) "set_iterator":=⟨o,h1,h2⟩
    refine wpAny_pyIter_slot hT slot_si_iter (wpAny_call_entry slot_si_iter hT entry_si_iter ?_ (args_si_iter _))
    show wpAny _ _ (ret (.ref I)) _ _ s
    exact wpAny_pure ⟨_,rfl, "set_iterator",_,hT,slot_si_next.lookup,hQ⟩
theorem iter_set (K:SObj w s.heap S es ep t) {Q:Value→Shared→Prop}
    (q:Q (.ref s.heap.objs.size) { s with heap:=s.heap.push { cls:=.type "set_iterator",data:=.fields #[.int 0 0,.int 0 0,.ref S,.int es.size 0,.int ep 0] } }):wpAny (model prog w) A (pyIter (.ref S)) Q E s:=by
  obtain ⟨o,h1,h2,h3⟩:=id K.obj
  have hT:s.TypeIs (.ref S) "set":=⟨o,h1,h2⟩
  refine wpAny_pyIter_slot hT F.slot_set_iter (wpAny_call_entry F.slot_set_iter hT entry_s_iter ?_ (F.args_set_iter_1 _))
  unfold Builtin.«frozenset.__iter__»
  refine wpAny_bind (wpAny_bind (m:=slotArgs _ _ _) (wpAny_pure (wpAny_pure ?_)))
  refine wpAny_bind (wpAny_bind (K.entries (wpAny_pure ?_)))
  refine wpAny_bind ?_
  unfold setDrawn
  refine wpAny_bind (K.state ?_)
  refine wpAny_bind (by_text (wpAny_pure ?_))
  have hd:(!w.params.followText "set-order"&&(!t.plain&&decide (es.size > 1)))=false:=by rw [K.plain]; simp
  show wpAny _ _ (if (!w.params.followText "set-order"&&(!t.plain&&decide (es.size > 1)))=true then _ else _) _ _ s
  rw [hd,if_neg Bool.false_ne_true]
  refine wpAny_bind (wpAny_pure ?_)
  refine wpAny_bind (K.epoch ?_)
  exact wpAny_bind (wpAny_newObj_type (wpAny_pure ⟨_,rfl, "set_iterator",_,⟨_,Heap.get?_push_size _ rfl,rfl⟩,slot_si_next.lookup,q⟩))
theorem items_ord {acc:Array Value} (h:ItemsOf (fun i v=>∃ e,(ordS w S ep es)[i]?=some e∧v=e.2) acc es.size):acc.toList=(ordS w S ep es).toList.map (·.2):=by
  obtain ⟨h1,h2⟩:=h
  apply List.ext_getElem?
  intro i
  rw [Array.getElem?_toList,List.getElem?_map,Array.getElem?_toList]
  by_cases hi:i < acc.size
  · have e:=Array.getElem?_eq_getElem hi
    obtain ⟨x,q1,q2⟩:=h2 i _ e
    rw [e,q1,q2]; rfl
  · rw [Array.getElem?_eq_none (by lia),Array.getElem?_eq_none (by rw [ordS_size]; lia)]; rfl
theorem hint_set (K:SObj w s.heap S es ep t) {Q:Bool→Shared→Prop} (h:Q false s):wpAny (model prog w) A (Builtin.List.listLengthHint (.ref S)) Q E s:=by
  obtain ⟨o,h1,h2,h3⟩:=id K.obj
  have hT:s.TypeIs (.ref S) "set":=⟨o,h1,h2⟩
  unfold Builtin.List.listLengthHint
  refine wpAny_bind (wpAny_specialOf hT F.slot_set_len.lookup ?_)
  generalize hid:("set.__len__":String)=id0
  wp_delta
  rw [show splitId id0=some ("set", "__len__") from by subst hid; decide +kernel]
  subst hid
  refine wpAny_bind (wpAny_isInstance (T := "set") (b:=true) hT sub_set_self ?_)
  refine wpAny_ite_split (fun z=>absurd z (by decide)) (fun _=>?_)
  refine wpAny_ite_split (fun _=>?_) (fun z=>absurd (by decide +kernel) z)
  refine wpAny_bind (wpAny_typeOf hT ?_)
  exact wpAny_pure h
theorem extend_set {R:Result→Shared→Prop} {L:Addr} {res:Value} {c₀:Nat} (nh:A.handled=none) (K:SObj w s.heap S es ep t) (hl:es.size≤sizeLine) (hLS:L≠S) (hL:s.heap.get? L=some { cls:=.type "list",data:=.seq #[] c₀ })
    (hR:∀ h' tk acc' c',(∀ b o,b≠L→s.heap.get? b=some o→h'.get? b=some o)→h'.get? L=some { cls:=.type "list",dict:=none,data:=.seq acc' c',slots:=#[] }→acc'.toList=(ordS w S ep es).toList.map (·.2)→R (.ok (.ret res)) { s with heap:=h',toks:=tk }) :
    wpAny (model prog w) A.in1 (Builtin.List.listExtendWith (.ref L) (.ref S) res)
      (fun fin s'=>match fin with | .done f=>R (.ok f) s' | .again c'=>c'.quiet=true∧codeAny (model prog w) A c' R s') (fun e s'=>R (.error e) s') s:=by
  obtain ⟨o,h1,h2,h3⟩:=id K.obj
  have hT:s.TypeIs (.ref S) "set":=⟨o,h1,h2⟩
  unfold Builtin.List.listExtendWith
  refine wpAny_bind (wpAny_typeOf hT ?_)
  have g1:Builtin.List.listSameRef (.ref L) (.ref S)=false:=by simp [Builtin.List.listSameRef,hLS]
  have g2:(Value.type "set" == Value.type "list")=false:=by decide
  have g3:(Value.type "set" == Value.type "tuple")=false:=by decide
  simp only [g1,g2,g3,Bool.or_false,Bool.false_eq_true,if_false]
  refine wpAny_bind (iter_set K ?_)
  have hSlt:S < s.heap.objs.size:=Heap.lt_size h1
  have hLlt:L < s.heap.objs.size:=Heap.lt_size hL
  have K1:SObj w (s.heap.push { cls:=.type "set_iterator",data:=.fields #[.int 0 0,.int 0 0,.ref S,.int es.size 0,.int ep 0] }) S es ep t:=K.at fun o e=>Heap.get?_push_of_some _ e
  have hL1:(s.heap.push { cls:=.type "set_iterator",data:=.fields #[.int 0 0,.int 0 0,.ref S,.int es.size 0,.int ep 0] }).get? L=some { cls:=.type "list",data:=.seq #[] c₀ }:=Heap.get?_push_of_some _ hL
  have hI1:SiAt (s.heap.push { cls:=.type "set_iterator",data:=.fields #[.int 0 0,.int 0 0,.ref S,.int es.size 0,.int ep 0] }) s.heap.objs.size S 0 0 es.size ep:=⟨_,Heap.get?_push_size _ rfl,rfl,rfl⟩
  have k1:∀ b o,s.heap.get? b=some o→(s.heap.push { cls:=.type "set_iterator",data:=.fields #[.int 0 0,.int 0 0,.ref S,.int es.size 0,.int ep 0] }).get? b=some o:=fun b o e=>Heap.get?_push_of_some _ e
  generalize s.heap.push { cls:=.type "set_iterator",data:=.fields #[.int 0 0,.int 0 0,.ref S,.int es.size 0,.int ep 0] }=hp1 at *
  refine wpAny_bind (wpAny_holding (hint_set (s:={ s with heap:=hp1 }) K1 ?_))
  refine wpAny_ite_split (fun _=>?_) (fun z=>absurd (by decide +kernel) z)
  refine wpAny_bind (wpAny_rule (wpAny_bind ?_))
  show wpAny _ _ (updateSeq L (·.push .none)>>=fun _=>updateSeq L (·.pop)) _ _ _
  refine wpAny_bind (wpAny_updateSeq hL1 rfl ?_)
  have hL2:=Heap.get?_update_self (Obj.mapSeq (·.push Value.none)) hL1 rfl
  refine wpAny_updateSeq (hz:=by seq_fits) hL2 rfl ?_
  have hL3:=Heap.get?_update_self (Obj.mapSeq (·.pop)) hL2 rfl
  have oth:∀ b,b≠L→((hp1.update L (Obj.mapSeq (·.push Value.none))).update L (Obj.mapSeq (·.pop))).get? b=hp1.get? b:=fun b hb=>by
    rw [Heap.get?_update_ne _ _ _ _ hb,Heap.get?_update_ne _ _ _ _ hb]
  have hIL:s.heap.objs.size≠L:=Nat.ne_of_gt hLlt
  refine wpAny_pure ⟨plainId_quiet F.plain_extend_loop _,?_⟩
  have W:=(walks_si (prog:=prog) (w:=w) (A:=A.in1) (S:=S) (I:=s.heap.objs.size) (es:=es) (ep:=ep) (t:=t) (by simpa using nh) (Nat.ne_of_lt hSlt) hl).toS
  refine codeAny_extend_loopS W hl L (by simp [Ne.symm hIL,hLS]) res es.size 0 _ #[] _ (Nat.sub_zero _) (Nat.zero_le _) ⟨⟨0,?_,fun _=>?_⟩,K1.at fun o e=>(oth S (Ne.symm hLS)).trans e⟩ hL3 (ItemsOf.nil _) fun s' acc' c' hm hS' hacc=>?_
  · obtain ⟨o',q1,q2,q3⟩:=hI1
    exact ⟨o',(oth _ hIL).trans q1,q2,q3⟩
  · obtain ⟨b1,b2,b3⟩:=below_ok K.rise 0
    rcases Nat.eq_zero_or_pos (below t.place 0) with z | z
    · exact z
    · exact absurd (b2 0 (by lia) z) (Nat.not_lt_zero _)
  · rw [Moved.eq_with hm]
    refine hR s'.heap s'.toks acc' c' (fun b o hb e=>hm.heap b o (fun z=>?_) ((oth b hb).trans (k1 b o e))) hS' ?_
    · rcases List.mem_cons.mp z with z | z
      · exact hb z
      · have:b=s.heap.objs.size:=by simpa using z
        exact absurd (Heap.lt_size e) (by rw [this]; exact Nat.lt_irrefl _)
    · exact items_ord hacc
theorem collect_set (nh:A.handled=none) (K:SObj w s.heap S es ep t) (hl:es.size≤sizeLine) {Q:List Value→Shared→Prop}
    (q:∀ h' tk,(∀ b o,s.heap.get? b=some o→h'.get? b=some o)→Q ((ordS w S ep es).toList.map (·.2)) { s with heap:=h',toks:=tk }):wpAny (model prog w) A (collect (.ref S)) Q E s:=by
  obtain ⟨o,h1,h2,h3⟩:=id K.obj
  have hlt:S < s.heap.objs.size:=Heap.lt_size h1
  unfold collect
  refine wpAny_bind (wpAny_runValue (codeAny_builtin entry_proto_collect' ?_))
  refine wpAny_bind (m:=newList []) (wpAny_newList (wpAny_pure ⟨Code.quiet_builtin _ (by decide +kernel),codeAny_builtin entry_list_iadd' ?_⟩))
  rw [Around.under_plainId (show plainId "list.__iadd__"=true by decide +kernel) ⟨[.ref s.heap.objs.size,.ref S],[]⟩]
  refine extend_set (R:=fun r s'=>match r with
    | Except.ok (Flow.ret v)=>wpAny (model prog w) A (match v with
      | Value.ref a=>(load a>>=fun o=>match o.data with
        | Data.seq xs _=>pure xs.toList
        | _=>unsupported "internal:collect")
      | _=>unsupported "internal:collect") Q E s'
    | Except.ok _=>False
    | Except.error e=>E e s') (s:={ s with heap:=s.heap.push (seqObj "list" #[] 0) }) (A:=A) (L:=s.heap.objs.size) (res:=.ref s.heap.objs.size) (c₀:=0) ?_ (K.at fun o e=>Heap.get?_push_of_some _ e) hl (Nat.ne_of_gt hlt) (Heap.get?_push_size _ rfl) fun h' tk acc' c' hk hL' hacc=>?_
  · simpa using nh
  · refine wpAny_bind (wpAny_load hL' ?_)
    show wpAny _ _ (pure acc'.toList) _ _ _
    rw [hacc]
    exact wpAny_pure (q h' tk fun b o e=>hk b o (Nat.ne_of_lt (Heap.lt_size e)) (Heap.get?_push_of_some _ e))
end
end L2
namespace L2
open PySem PySem.Spec PyProof.Rows
noncomputable abbrev set0 (w:World):Obj:={ cls:=.type "set",dict:=none,data:=.set #[] 0 (.fresh 0 0 (!w.params.followText "set-order")) }
noncomputable abbrev lit0 (l:Addr):Obj:={ cls:=.type "list_iterator",data:=.fields #[.ref l,.int 0 0] }
section
variable {prog:Program} {w:World} {A:Around} {E:Value→Shared→Prop} {s:Shared}
theorem set_new_led (x:Value) {Q₁:Value→Shared→Prop} (q:Q₁ (.ref s.heap.objs.size) { s with heap:=s.heap.push (set0 w) }) :
    codeAny (model prog w) A (.call (.builtin "set.__new__") ⟨[.type "set",x],[]⟩) (wants Q₁ E) s:=by
  refine codeAny_of_tree (wpAny_bind (m:=checkBuiltinCall "set.__new__" ⟨[.type "set",x],[]⟩) (wpAny_of_eq (F.newCall_set_1 x) (wpAny_pure ⟨plainId_quiet F.plain_set_new _,codeAny_builtin F.entry_set_new ?_⟩)))
  rw [Around.under_plainId F.plain_set_new ⟨[.type "set",x],[]⟩]
  unfold Builtin.«set.__new__» Builtin.Frozenset.newClass
  have hself:=sub_set_self
  obtain ⟨hp,gg,dd,tt,oo⟩:=s
  dsimp only; wp_walk
  refine wpAny_askSetting (wpAny_pure ?_); dsimp only; simp only [newObj]
  exact wpAny_bind (wpAny_alloc (wpAny_pure (wpAny_pure q)))
theorem call_set_gen {l:Addr} {items:Array Value} {Z:Heap→Prop} {Q:Value→Shared→Prop} (hl:s.heap.IsList l items)
    (loop:∀ R:Result→Shared→Prop,(∀ h' tk,Z h'→(∀ b o,s.heap.get? b=some o→h'.get? b=some o)→R (.ok (.ret .none)) { s with heap:=h',toks:=tk })→
      codeAny (model prog w) A.in1.in1 (.builtin "set.update.loop" ⟨[.ref s.heap.objs.size,.ref (s.heap.push (set0 w)).objs.size],[]⟩) R { s with heap:=(s.heap.push (set0 w)).push (lit0 l) })
    (q:∀ h' tk,Z h'→(∀ b o,s.heap.get? b=some o→h'.get? b=some o)→Q (.ref s.heap.objs.size) { s with heap:=h',toks:=tk }) :
    wpAny (model prog w) A (call (.type "set") [.ref l]) Q E s:=by
  have ft:=F.called_set
  obtain ⟨m0,mr,hm⟩:=ft.mro
  have y1:=ft.made
  have y2:=ft.sub
  have y3:=ft.notType
  have y4:=ft.canCreate
  have y5:=F.typeCall_set_1 (.ref l)
  refine wpAny_call (codeAny_of_tree ?_)
  show wpAny _ _ (callAny (.type "set") ⟨[.ref l],[]⟩) _ _ _
  refine wpAny_pure ⟨Code.quiet_builtin _ (by decide +kernel),codeAny_builtin F.entry_type_call ?_⟩
  rw [Around.under_plain (weight_type_call_type "set" [.ref l] []) rfl]
  repeat any_goals first | assumption | wp_step
  refine codeAny_mono (set_new_led (.ref l) (E:=E) (Q₁:=fun obj s₁=>obj=.ref s.heap.objs.size∧s₁={ s with heap:=s.heap.push (set0 w) }) ⟨rfl,rfl⟩) fun r s₁ hr=>?_
  cases r with
  | error e=>exact hr
  | ok fl=>
    cases fl with
    | ret obj=>
      obtain ⟨rfl,rfl⟩:=hr
      have hS:(s.heap.push (set0 w)).get? s.heap.objs.size=some (set0 w):=Heap.get?_push_size _ rfl
      have hT:Shared.TypeIs { s with heap:=s.heap.push (set0 w) } (.ref s.heap.objs.size) "set":=⟨_,hS,rfl⟩
      have y6:=ft.init.lookup
      have y7:=ft.init.bind (.ref s.heap.objs.size)
      repeat any_goals first | assumption | wp_step
      refine codeAny_mono (codeAny_call_builtin (R:=wants (fun r s₂=>r=.none∧∃ h' tk,s₂={ s with heap:=h',toks:=tk }∧Z h'∧∀ b o,s.heap.get? b=some o→h'.get? b=some o) E) ft.init.plain F.entry_set_init (check_set_init_1 hT ?_)) fun r₂ s₂ hr₂=>?_
      · obtain ⟨⟨cl,dc,dt,sl⟩,e1,e2,nl,e3⟩:=hl
        simp only at e2 e3
        subst e2 e3
        have e1':(s.heap.push (set0 w)).get? l=some { cls:=.type "list",dict:=dc,data:=.seq items nl,slots:=sl }:=Heap.get?_push_of_some _ e1
        have z1:=F.sub_list_set
        have z2:=F.sub_list_frozenset
        have z3:(Value.type "list" == Value.type "dict")=false:=by decide
        have hl1:(s.heap.push (set0 w)).IsList l items:=⟨_,e1',rfl,nl,rfl⟩
        unfold Builtin.«set.__init__» noKeywords Builtin.Frozenset.updateFrom
        generalize hPI:pyIter=PI
        wp_walk
        subst hPI
        refine wpAny_pyIter_list hl1 (wpAny_bind (wpAny_runValue (loop _ fun h' tk hZ hk=>?_)))
        show wpAny _ _ _ _ _ _
        exact wpAny_pure (show wpAny _ _ (ret Value.none) _ _ _ from wpAny_pure ⟨rfl,h',tk,rfl,hZ,hk⟩)
      · cases r₂ with
        | error e=>exact hr₂
        | ok fl₂=>
          cases fl₂ with
          | ret v=>
            obtain ⟨rfl,h',tk,rfl,hZ,hk⟩:=hr₂
            repeat any_goals first | assumption | wp_step
            exact q _ _ hZ hk
          | _=>exact hr₂.elim
    | _=>exact hr.elim
end
end L2
namespace L2
open PySem PySem.Spec PyProof.Rows PySem.SetTable
theorem SetHas.fresh {Pv:Value→D→Prop} {w:World} {h:Heap} {a:Addr} {ds:List D} (hget:h.get? a=some (set0 w)):SetHas Pv w h a (ds.take 0):=by
  refine ⟨[],⟨#[],.fresh 0 0 (!w.params.followText "set-order"),⟨⟨_,0,hget,⟨rfl,rfl,rfl⟩,rfl⟩,⟨⟨fun i j hi=>absurd hi (Nat.not_lt_zero _)⟩,rfl,fun j hj=>?_,by show 7 % 2=1; decide,by first | exact full8 | (show Full 8; exact full8),Nat.zero_le _,fun i j e=>?_⟩,rfl,rfl,fun i e d he=>?_,fun i e d he=>?_⟩,.inl ⟨rfl,Nat.zero_le _⟩,fun z=>?_,rfl⟩,List.Perm.refl _⟩
  · cases hj; rename_i q; cases q
  · cases e
  · cases he
  · cases he
  · show (!w.params.followText "set-order")=true
    rw [z]; rfl
section
variable {Pv:Value→D→Prop} {prog:Program} {w:World} {A:Around} {E:Value→Shared→Prop} {s:Shared}
theorem call_set_keys {l:Addr} {items:Array Value} {ds:List D} {Q:Value→Shared→Prop} (nh:A.handled=none) (hl:s.heap.IsList l items) (hi:∀ (i:Nat) v,items[i]?=some v→∃ d,ds[i]?=some d∧KeyAt s.heap v d∧Pv v d) (hlen:ds.length=items.size) (hb:items.size < 70) (hu:A.units + 80 < cLine)
    (q:∀ h' tk,SetHas Pv w h' s.heap.objs.size ds→(∀ b o,s.heap.get? b=some o→h'.get? b=some o)→Q (.ref s.heap.objs.size) { s with heap:=h',toks:=tk }):wpAny (model prog w) A (call (.type "set") [.ref l]) Q E s:=by
  refine call_set_gen (Z:=fun h'=>SetHas Pv w h' s.heap.objs.size ds) hl (fun R hR=>?_) q
  obtain ⟨ol,hol,_⟩:=id hl
  have hlS:l < s.heap.objs.size:=Heap.lt_size hol
  have hsz:(s.heap.push (set0 w)).objs.size=s.heap.objs.size + 1:=Heap.size_push ..
  have hne:l≠(s.heap.push (set0 w)).objs.size:=by rw [hsz]; exact Nat.ne_of_lt (Nat.lt_succ_of_lt hlS)
  have hnew:∀ b o,s.heap.get? b=some o→b∉s.heap.objs.size::[(s.heap.push (set0 w)).objs.size]:=fun b o e=>by
    have:=Heap.lt_size e
    rw [hsz]
    simp only [List.mem_cons,List.mem_singleton,List.not_mem_nil,or_false,not_or]
    exact ⟨Nat.ne_of_lt this,Nat.ne_of_lt (Nat.lt_succ_of_lt this)⟩
  have hl2:((s.heap.push (set0 w)).push (lit0 l)).IsList l items:=(hl.push _).push _
  have nh3:A.in1.in1.in1.handled=none:=by simpa using nh
  refine set_loop (Pv:=Pv) ((Walks.list nh3 _ l hne items).toS) s.heap.objs.size (by rw [hsz]; simp; exact Nat.ne_of_gt hlS) s.heap hnew (fun i s' st b hb' o vs k e z=>?_) ds hlen hb hi (by show A.units + 1 + 1 + 70 < cLine; lia) (items.size - 0) 0 _ (by lia) (Nat.zero_le _)
    ⟨⟨_,Heap.get?_push_size _ rfl,rfl,rfl⟩,hl2⟩ (fun b o e=>Heap.get?_push_of_some _ (Heap.get?_push_of_some _ e)) (SetHas.fresh (Heap.get?_push_of_some _ (Heap.get?_push_size _ rfl))) fun s' hm hS=>?_
  · rw [List.mem_singleton] at hb'
    subst hb'
    obtain ⟨⟨o',e1,e2,e3⟩,_⟩:=st
    rw [e1] at e
    cases e
    rw [e3] at z
    cases z
  · obtain ⟨h',g',d',tk',os'⟩:=s'
    have eg:g'=s.gens:=hm.gens
    have ed:d'=s.drawn:=hm.drawn
    have eo:os'=s.os:=hm.os
    subst eg ed eo
    exact hR h' tk' hS fun b o e=>hm.heap b o (hnew b o e) (Heap.get?_push_of_some _ (Heap.get?_push_of_some _ e))
end
end L2
namespace L2
open PySem PySem.Spec PyProof.Rows PySem.W PySem.SetTable
noncomputable def SetV (w:World) (a:Addr) (vs:List V):Heap→Prop:=fun h=>∃ es ep t,SObj w h a es ep t∧es.size≤76∧Vals vs (es.toList.map (·.2))
noncomputable def setKeysOk (ds:List D):Bool:=decide (ds.length < 70)&&ds.all keyOk
theorem setKeysOk_iff {ds:List D} (h:setKeysOk ds=true):ds.length < 70∧∀ d∈ds,keyOk d=true:=by
  unfold setKeysOk at h
  rw [Bool.and_eq_true,decide_eq_true_eq] at h
  exact ⟨h.1,fun d m=>List.all_eq_true.mp h.2 d m⟩
theorem pick_vals {K:PySem.W.Frag} {H:Hp}:∀ (us:List Value) (ds:List D),us.length=ds.length→(∀ (i:Nat) u d,us[i]?=some u→ds[i]?=some d→∃ x,RelV x u∧Rep K H x d)→∃ vs,Vals vs us∧Reps K H vs ds:=by
  intro us
  induction us with
  | nil=>
    intro ds hl _
    obtain rfl:ds=[]:=List.length_eq_zero_iff.mp hl.symm
    exact ⟨[],.nil,.nil⟩
  | cons u us ih=>
    intro ds hl h
    cases ds with
    | nil=>cases hl
    | cons d ds=>
      obtain ⟨x,h1,h2⟩:=h 0 u d rfl rfl
      obtain ⟨vs,h3,h4⟩:=ih ds (Nat.succ.inj hl) fun i u' d' e1 e2=>h (i + 1) u' d' e1 e2
      exact ⟨x::vs,.cons h1 h3,.cons h2 h4⟩
theorem perm_vals {K:PySem.W.Frag} {H:Hp} {us us0:List Value} (p:us.Perm us0):∀ {vs:List V} {ds:List D},Vals vs us0→Reps K H vs ds→∃ vs2 ds2,Vals vs2 us∧Reps K H vs2 ds2∧ds2.Perm ds:=by
  induction p with
  | nil=>
    intro vs ds r1 r2
    exact ⟨vs,ds,r1,r2,List.Perm.refl _⟩
  | cons x _ ih=>
    intro vs ds r1 r2
    cases r1 with
    | cons a1 a2=>
      cases r2 with
      | cons b1 b2=>
        obtain ⟨vs2,ds2,h1,h2,h3⟩:=ih a2 b2
        exact ⟨_,_,.cons a1 h1,.cons b1 h2,h3.cons _⟩
  | swap x y l=>
    intro vs ds r1 r2
    cases r1 with
    | cons a1 a2=>
      cases a2 with
      | cons a2 a3=>
        cases r2 with
        | cons b1 b2=>
          cases b2 with
          | cons b2 b3=>exact ⟨_,_,.cons a2 (.cons a1 a3),.cons b2 (.cons b1 b3),List.Perm.swap _ _ _⟩
  | trans _ _ ih1 ih2=>
    intro vs ds r1 r2
    obtain ⟨vs2,ds2,h1,h2,h3⟩:=ih2 r1 r2
    obtain ⟨vs3,ds3,h4,h5,h6⟩:=ih1 h1 h2
    exact ⟨vs3,ds3,h4,h5,h6.trans h3⟩
theorem all_perm {α:Type} {p:α→Bool} {as bs:List α} (h:as.Perm bs) (hb:bs.all p=true):as.all p=true:=List.all_eq_true.mpr fun x m=>List.all_eq_true.mp hb x (h.mem_iff.mp m)
theorem sortOk_perm {as bs:List D} (h:as.Perm bs) (ok:sortOk bs=true):sortOk as=true:=by
  unfold sortOk at ok ⊢
  simp only [Bool.and_eq_true,decide_eq_true_eq] at ok ⊢
  obtain ⟨⟨⟨⟨h1,h2⟩,h3⟩,h4⟩,h5⟩:=ok
  refine ⟨⟨⟨⟨by rw [h.length_eq]; exact h1,all_perm h h2⟩,?_⟩,all_perm h h4⟩,all_perm h h5⟩
  refine List.all_eq_true.mpr fun x hx=>List.all_eq_true.mpr fun y hy=>?_
  exact List.all_eq_true.mp (List.all_eq_true.mp h3 x (h.mem_iff.mp hx)) y (h.mem_iff.mp hy)
section
variable {X:Cx}
theorem call_setR (hu:X.A.units + 80 < cLine) (hcalm:X.calm=true):CallR X (.type "set") (fun xs H Q=>∃ l vs ds F0,xs=[.ref l]∧SqL X.K H l vs∧Same F0 H∧Reps X.K F0 vs ds∧setKeysOk ds=true ∧
    ∀ a vs' ds',H a=none→ds'.Perm (dedD ds)→Reps X.K F0 vs' ds'→Q (.ref a) (upd H a (.ext (SetV X.w a vs')))):=by
  intro pins s σ H xs us Q I r h
  obtain ⟨l,vs,ds,F0,rfl,hq,hF,hr,ok,q⟩:=h
  obtain ⟨u,rfl,ru⟩:=vals1 r
  cases ru
  obtain ⟨hlen,hk⟩:=setKeysOk_iff ok
  obtain ⟨its,rv,pl,hz⟩:=I.list hq
  have l1:=rv.length
  have l2:=hr.length
  refine call_set_keys (Pv:=fun v d=>∃ x,RelV x v∧Rep X.K F0 x d) (ds:=ds) (I.ok.hd hcalm) pl.isList (fun i v hv=>?_) (by simp; lia) (by simp; lia) hu fun h' tk S kp=>?_
  · have hv':its[i]?=some v:=by simpa using hv
    have hi:i < vs.length:=by rw [l1]; exact (List.getElem?_eq_some_iff.mp hv').1
    obtain ⟨u',e1,e2⟩:=rv.get (List.getElem?_eq_getElem hi)
    rw [hv'] at e1
    cases e1
    obtain ⟨d,e3,e4⟩:=hr.getV (List.getElem?_eq_getElem hi)
    have kd:=hk d (List.mem_of_getElem? e3)
    exact ⟨d,e3,⟨kd,Rep.reads I 8 (e4.same hF) (keyOk_iff kd).2.1 e2⟩,_,e2,e4⟩
  · obtain ⟨ds',⟨es,t,S,sz,ld⟩,p⟩:=S
    obtain ⟨vs',h1,h2⟩:=pick_vals (K:=X.K) (H:=F0) (es.toList.map (·.2)) ds' (by rw [List.length_map,Array.length_toList,S.len]) fun i u d e1 e2=>by
      rw [List.getElem?_map,Array.getElem?_toList] at e1
      cases z:es[i]? with
      | none=>rw [z] at e1; cases e1
      | some e=>rw [z] at e1; cases e1; exact S.pv i e d z e2
    obtain ⟨o,ep,g1,g2,g3⟩:=S.obj
    have K:SObj X.w h' s.heap.objs.size es ep t:=⟨⟨o,g1,g2.1,g3⟩,S.tab.fits S.siz,S.siz,S.tab.rise,ld.1,ld.2⟩
    have hsz:es.size≤76:=by rcases sz with ⟨_,z⟩ | ⟨_,z⟩ | ⟨_,z⟩ <;> lia
    refine ⟨.ref s.heap.objs.size,_,I.laid (o:=.ext (SetV X.w s.heap.objs.size vs')) (t':=tk) kp (Nat.le_refl _) ⟨⟨es,ep,t,K,hsz,h1⟩,⟨o,g1⟩,fun ha hb hφ hk'=>?_⟩,rfl,q _ vs' ds' (I.hok.fresh (Nat.le_refl _)) p h2⟩
    obtain ⟨es',ep',t',K',z1,z2⟩:=hφ
    exact ⟨es',ep',t',K'.at hk',z1,z2⟩
theorem call_sortedS (hu:X.A.units + 64 < cLine) (hcalm:X.calm=true):CallR X (.builtin "sorted") (fun xs H Q=>∃ a vs ds F0,xs=[.ref a]∧H a=some (.ext (SetV X.w a vs))∧Same F0 H∧Reps X.K F0 vs ds∧sortOk ds=true ∧
    ∀ l ws,H l=none→Reps X.K F0 ws (sortD ds)→Q (.ref l) (upd H l (.lst ws))):=by
  intro pins s σ H xs us Q I r h
  obtain ⟨a,vs,ds,F0,rfl,hH,hF,hr,ok,q⟩:=h
  obtain ⟨u,rfl,ru⟩:=vals1 r
  cases ru
  obtain ⟨⟨es,ep,t,K,hsz,rv⟩,_⟩:=I.hok a _ hH
  refine sorted_core (collect_set (by have:=I.ok.hd hcalm; simpa using this) K (by rw [sizeLine_eq]; lia) fun h' tk kp=>?_)
  have p:((ordS X.w a ep es).toList.map (·.2)).Perm (es.toList.map (·.2)):=(ordS_perm X.w a ep es).map _
  obtain ⟨vs2,ds2,h1,h2,h3⟩:=perm_vals p rv hr
  obtain ⟨_,hc,_,_⟩:=sortOk_iff ok
  have es2:sortD ds2=sortD ds:=sortD_same h3 hc
  refine sorts_to (I.kept (t':=tk) kp) (h2.same hF) h1 (sortOk_perm h3 ok) hu fun l pp s' hl b1 b2 b3 I'=>⟨.ref l,_,I',rfl,q l _ hl ?_⟩
  rw [← es2]
  by_cases hn:ds2=[]
  · subst hn
    have:pp=[]:=List.length_eq_zero_iff.mp b2
    rw [this]
    exact .nil
  · rw [← b3]
    exact h2.perm hn pp b1
variable {e:Expr} {p p2 pos pos2:Pos}
noncomputable def setSortL (fa:DF→Option D):DF→Option (List D):=fun ρ=>match fa ρ with
  | some (.lst ds)=>if setKeysOk ds=true∧sortOk (dedD ds)=true then some (sortD (dedD ds)) else none
  | _=>none
theorem pdo_setSort {fa:DF→Option D} (hu:X.A.units + 80 < cLine) (hcalm:X.calm=true) (hg:Gl X "sorted") (hm:X.mg "sorted"=none) (hg2:Gl X "set") (hm2:X.mg "set"=none) (ha:PDR X e fa)
    (hs:starEach [e] X.env=[(false,eval e X.env)]:=by rfl) (hs2:starEach [.Call (.Name "set" p2) [e] [] pos2] X.env=[(false,eval (.Call (.Name "set" p2) [e] [] pos2) X.env)]:=by rfl)
    (hpl:(backTo pos (starEach [] X.env)).any (·.1)=false:=by rfl) (hpl2:(backTo pos2 (starEach [] X.env)).any (·.1)=false:=by rfl) :
    PDO X (.Call (.Name "sorted" p) [.Call (.Name "set" p2) [e] [] pos2] [] pos) (asL (setSortL fa)):=
  (pe_callB (call_sortedS (by lia) hcalm) hg hm boot_sorted (pa_cons (pe_callTy (call_setR hu hcalm) hg2 hm2 boot_set (pa_cons ha pa_nil hs) (by decide) (by decide) hs hpl2) pa_nil hs2) (by decide) (by decide) hs2 hpl).imp fun σ H Q=>un7 fun P F ρ ob hf I k=>by
    unfold asL setSortL at hf
    cases ha:fa ρ with
    | none=>rw [ha] at hf; cases hf
    | some dx=>
    rw [ha] at hf
    cases dx with
    | lst ds=>
      dsimp only at hf
      split at hf
      · rename_i ok
        cases hf
        refine ⟨P,F,ρ,_,ha,I,fun x F1 H1 e1 rx=>?_⟩
        have I1:=I.evo e1
        obtain ⟨l,vs,rfl,h1,h2⟩:=rep_lst I1 rx
        refine ⟨l,vs,ds,F1,rfl,h1,I1.sub,h2,ok.1,fun a vs' ds' na pm r'=>?_⟩
        have e2:Evo P F1 H1 F1 (upd H1 a (.ext (SetV X.w a vs'))):=Evo.side e1.hp na
        obtain ⟨_,hc,_,_⟩:=sortOk_iff ok.2
        refine ⟨a,vs',ds',F1,rfl,upd_same,e2.hp.sub,r',sortOk_perm pm ok.2,fun l2 ws nl rw'=>?_⟩
        rw [sortD_same pm hc] at rw'
        exact k l2 F1 _ ((e1.trans e2).trans (Evo.side e2.hp nl)) ⟨⟨(e1.trans e2).back I.toDHp nl,(e2.hp.free nl).1⟩,_,upd_same,rw'⟩
      · cases hf
    | _=>cases hf
end
end L2
namespace L2
open PySem PySem.Spec PyProof.Rows
theorem Room.h80 {k:Nat} {A:Around} (r:Room k A):A.units + 80 < cLine:=by have:=r.un; lia
theorem bs_mk2 {X:Cx} {scope scope2:Scope} {N:List Str} {s:Shared} {H:Hp} {fp:List Addr} {pins:List (Addr×Obj)} (h:bsOk scope scope2=true):BlkScope (blk X scope N s H fp pins) scope2:=by
  unfold bsOk at h
  simp only [Bool.and_eq_true,decide_eq_true_eq] at h
  obtain ⟨⟨h1,h2⟩,h3⟩:=h
  refine ⟨by simpa using h1,h2,fun x hx hk=>?_⟩
  have q:=List.all_eq_true.mp h3 x hx
  rw [hk] at q
  have e2:(blk X scope N s H fp pins).env.kindOf x.1=(scope.names.lookup x.1).map fun k=>if (k == NameKind.free&&X.env.scope.kind == .function&&X.env.kindOf x.1 == some .cell) then NameKind.cell else k:=relabel_look scope.names
  rw [e2]
  have q':scope.names.lookup x.1=some .cell∨scope.names.lookup x.1=some .free:=by simpa using q
  rcases q' with z | z
  · rw [z]; exact .inl rfl
  · rw [z,Option.map_some]
    split
    · exact .inl rfl
    · exact .inr rfl
noncomputable def dedF (acc:List D) (d:D):List D:=open Classical in if d∈acc then acc else acc++[d]
theorem ded_go (ds:List D):∀ acc:List D,(∀ d,d∈ds.foldl dedF acc↔d∈acc∨d∈ds)∧(acc.Nodup→(ds.foldl dedF acc).Nodup):=by
  induction ds with
  | nil=>exact fun acc=>⟨fun d=>by simp,fun h=>h⟩
  | cons x r ih=>
    intro acc
    rw [List.foldl_cons]
    by_cases hx:x∈acc
    · rw [show dedF acc x=acc from if_pos hx]
      obtain ⟨h1,h2⟩:=ih acc
      refine ⟨fun d=>(h1 d).trans ⟨fun z=>z.imp id (List.mem_cons_of_mem _),fun z=>?_⟩,h2⟩
      rcases z with z | z
      · exact .inl z
      · rcases List.mem_cons.mp z with rfl | z
        · exact .inl hx
        · exact .inr z
    · rw [show dedF acc x=acc++[x] from if_neg hx]
      obtain ⟨h1,h2⟩:=ih (acc++[x])
      refine ⟨fun d=>(h1 d).trans ?_,fun nd=>h2 (List.nodup_append.mpr ⟨nd,by simp,fun a ha b hb=>?_⟩)⟩
      · rw [List.mem_append,List.mem_singleton,List.mem_cons]
        constructor
        · rintro ((z | z) | z)
          · exact .inl z
          · exact .inr (.inl z)
          · exact .inr (.inr z)
        · rintro (z | z | z)
          · exact .inl (.inl z)
          · exact .inl (.inr z)
          · exact .inr z
      · rw [List.mem_singleton] at hb
        subst hb
        rintro rfl
        exact hx ha
theorem mem_dedD {ds:List D} {d:D}:d∈dedD ds↔d∈ds:=by
  have:=(ded_go ds []).1 d
  rw [show dedD ds=ds.foldl dedF [] from rfl,this]
  simp
theorem nodup_dedD (ds:List D):(dedD ds).Nodup:=(ded_go ds []).2 List.nodup_nil
noncomputable def rkD (L:List D) (d:D):Nat:=(L.filter fun x=>ltD x d).length
theorem rkD_perm {L M:List D} (p:L.Perm M) (d:D):rkD L d=rkD M d:=(p.filter _).length_eq
theorem idx_rank {n:Nat} {d:D}:∀ {L:List D},Cmps n L→L.Pairwise (fun a b=>ltD b a=false)→L.Nodup→d∈L→idxD d L=some (rkD L d)
  | [],_,_,_,h=>by cases h
  | x::r,hc,hs,nd,h=>by
    have hx:okN n x=true:=hc.1 x List.mem_cons_self
    obtain ⟨s1,s2⟩:=List.pairwise_cons.mp hs
    obtain ⟨n1,n2⟩:=List.nodup_cons.mp nd
    have irr:ltD x x=false:=by
      cases q:ltD x x with
      | false=>rfl
      | true=>have:=(fc2_all n x x hx hx (hc.2 x List.mem_cons_self x List.mem_cons_self)).as q; rw [q] at this; cases this
    unfold idxD rkD
    rcases List.mem_cons.mp h with rfl | hr
    · rw [if_pos ((eqd_iff _ _ (hc.2 _ List.mem_cons_self _ List.mem_cons_self)).mpr rfl),List.filter_cons_of_neg (by rw [irr]; exact Bool.false_ne_true)]
      rw [List.filter_eq_nil_iff.mpr fun y hy=>by rw [s1 y hy]; exact Bool.false_ne_true]
      rfl
    · have hne:x≠d:=fun z=>n1 (z ▸ hr)
      have hm:d∈x::r:=h
      have hlt:ltD x d=true:=by
        cases q:ltD x d with
        | true=>rfl
        | false=>exact absurd ((fc2_all n x d hx (hc.1 d hm) (hc.2 x List.mem_cons_self d hm)).an q (s1 d hr)) hne
      rw [if_neg fun z=>hne ((eqd_iff _ _ (hc.2 x List.mem_cons_self d hm)).mp z),List.filter_cons_of_pos (p:=fun x=>ltD x d) hlt]
      rw [idx_rank (hc.sub fun y hy=>List.mem_cons_of_mem _ hy) s2 n2 hr]
      rfl
theorem idx_ded {n:Nat} {ds:List D} (hc:Cmps n ds) {d:D} (hd:d∈ds):idxD d (sortD (dedD ds))=some (rkD (dedD ds) d):=by
  have hc':Cmps n (dedD ds):=hc.sub fun x hx=>mem_dedD.mp hx
  have p:=sortD_perm (dedD ds)
  rw [idx_rank (hc'.perm p.symm) (sortD_sorted hc') ((p.nodup_iff).mpr (nodup_dedD ds)) (p.mem_iff.mpr (mem_dedD.mpr hd)),rkD_perm p]
end L2
namespace My
open PySem PySem.Spec PyProof.Rows L2
noncomputable section
noncomputable def top (i:Nat):Stmt:=PySem.Challenge.pw_tieword_k07_keys_and_a_finer_parting.main.body.getD i (.Pass ⟨0,0,0,0⟩)
noncomputable abbrev s_q24:Stmt:=top 25
noncomputable abbrev s_q11:Stmt:=top 24
noncomputable abbrev s_q16:Stmt:=top 28
noncomputable abbrev s_q20:Stmt:=top 34
noncomputable abbrev s_q18:Stmt:=top 29
noncomputable abbrev s_q15:Stmt:=top 35
noncomputable abbrev s_q14:Stmt:=top 33
noncomputable abbrev s_q17:Stmt:=top 31
noncomputable abbrev s_q13:Stmt:=top 30
noncomputable abbrev s_q21:Stmt:=top 32
noncomputable abbrev s_q26:Stmt:=top 36
noncomputable abbrev s_q12:Stmt:=top 37
noncomputable abbrev s_q25:Stmt:=top 38
noncomputable abbrev s_q23:Stmt:=top 39
noncomputable abbrev s_q22:Stmt:=top 40
noncomputable abbrev s_q4:Stmt:=top 15
noncomputable abbrev s_q6:Stmt:=top 16
noncomputable abbrev s_q5:Stmt:=top 17
noncomputable abbrev s_q31:Stmt:=top 18
noncomputable abbrev s_q28:Stmt:=top 19
noncomputable abbrev s_q29:Stmt:=top 20
noncomputable abbrev s_q7:Stmt:=top 21
noncomputable abbrev s_q0:Stmt:=inClass (top 22) 0
noncomputable abbrev s_q2:Stmt:=inClass (top 22) 1
noncomputable abbrev s_q1:Stmt:=inClass (top 22) 2
noncomputable abbrev s_q8:Stmt:=top 3
noncomputable abbrev s_q9:Stmt:=top 4
noncomputable abbrev s_q27:Stmt:=top 26
noncomputable abbrev s_q19:Stmt:=top 27
noncomputable abbrev s_q30:Stmt:=top 2
noncomputable abbrev s_q3:Stmt:=top 5
noncomputable abbrev s_q10:Stmt:=top 41
set_option genInjectivity false
set_option genSizeOf false
set_option genSizeOfSpec false
structure Adr where
  C:Addr
  f_q24:Addr
  d_q24:FuncData
  f_q11:Addr
  d_q11:FuncData
  f_q16:Addr
  d_q16:FuncData
  f_q20:Addr
  d_q20:FuncData
  f_q18:Addr
  d_q18:FuncData
  f_q15:Addr
  d_q15:FuncData
  f_q14:Addr
  d_q14:FuncData
  f_q17:Addr
  d_q17:FuncData
  f_q13:Addr
  d_q13:FuncData
  f_q21:Addr
  d_q21:FuncData
  f_q26:Addr
  d_q26:FuncData
  f_q12:Addr
  d_q12:FuncData
  f_q25:Addr
  d_q25:FuncData
  f_q23:Addr
  d_q23:FuncData
  f_q22:Addr
  d_q22:FuncData
  f_q4:Addr
  d_q4:FuncData
  f_q6:Addr
  d_q6:FuncData
  f_q5:Addr
  d_q5:FuncData
  f_q31:Addr
  d_q31:FuncData
  f_q28:Addr
  d_q28:FuncData
  f_q29:Addr
  d_q29:FuncData
  f_q7:Addr
  d_q7:FuncData
  f_q0:Addr
  d_q0:FuncData
  f_q2:Addr
  d_q2:FuncData
  f_q1:Addr
  d_q1:FuncData
  f_q8:Addr
  d_q8:FuncData
  f_q9:Addr
  d_q9:FuncData
  f_q27:Addr
  d_q27:FuncData
  f_q19:Addr
  d_q19:FuncData
  f_q30:Addr
  d_q30:FuncData
  f_q3:Addr
  d_q3:FuncData
  f_q10:Addr
  d_q10:FuncData
  tk_MOST_PLACES:Tok
  tk_MOST_TIES:Tok
  tk_MOST_LETTERS:Tok
structure Txt (K:PySem.W.Frag) (mg:Str→Option Value) (t:Adr):Prop where
  cl:Cls K t.C
  mkC:Mk K t.C t.f_q0
  mgC:mg "Web"=some (.ref t.C)
  na_joins:NoAttr K t.C "joins"
  na_kinds:NoAttr K t.C "kinds"
  na_ties:NoAttr K t.C "ties"
  fn_q24:Fun K "_law_spread" "_law_spread" s_q24 t.f_q24 t.d_q24
  bd_q24:Binds K t.d_q24 ["_law_cell", "_law_factor"] []
  g_q24:mg "_law_spread"=some (.ref t.f_q24)
  fn_q11:Fun K "_law_at" "_law_at" s_q11 t.f_q11 t.d_q11
  bd_q11:Binds K t.d_q11 ["_law_script", "_law_k"] []
  g_q11:mg "_law_at"=some (.ref t.f_q11)
  fn_q16:Fun K "_law_fold" "_law_fold" s_q16 t.f_q16 t.d_q16
  bd_q16:Binds K t.d_q16 ["_law_script", "_law_bound"] []
  g_q16:mg "_law_fold"=some (.ref t.f_q16)
  fn_q20:Fun K "_law_order" "_law_order" s_q20 t.f_q20 t.d_q20
  bd_q20:Binds K t.d_q20 ["_law_script", "_law_size", "_law_factor"] []
  g_q20:mg "_law_order"=some (.ref t.f_q20)
  fn_q18:Fun K "_law_kinds" "_law_kinds" s_q18 t.f_q18 t.d_q18
  bd_q18:Binds K t.d_q18 ["_law_script", "_law_size"] []
  g_q18:mg "_law_kinds"=some (.ref t.f_q18)
  fn_q15:Fun K "_law_false" "_law_false" s_q15 t.f_q15 t.d_q15
  bd_q15:Binds K t.d_q15 ["_law_script", "_law_number", "_law_kind", "_law_oneway", "_law_most"] []
  g_q15:mg "_law_false"=some (.ref t.f_q15)
  fn_q14:Fun K "_law_drawn_ties" "_law_drawn_ties" s_q14 t.f_q14 t.d_q14
  bd_q14:Binds K t.d_q14 ["_law_script", "_law_size"] []
  g_q14:mg "_law_drawn_ties"=some (.ref t.f_q14)
  fn_q17:Fun K "_law_halves" "_law_halves" s_q17 t.f_q17 t.d_q17
  bd_q17:Binds K t.d_q17 ["_law_half"] []
  g_q17:mg "_law_halves"=some (.ref t.f_q17)
  fn_q13:Fun K "_law_crossed" "_law_crossed" s_q13 t.f_q13 t.d_q13
  bd_q13:Binds K t.d_q13 ["_law_size"] []
  g_q13:mg "_law_crossed"=some (.ref t.f_q13)
  fn_q21:Fun K "_law_pairs" "_law_pairs" s_q21 t.f_q21 t.d_q21
  bd_q21:Binds K t.d_q21 ["_law_size", "_law_family"] []
  g_q21:mg "_law_pairs"=some (.ref t.f_q21)
  fn_q26:Fun K "_law_web" "_law_web" s_q26 t.f_q26 t.d_q26
  bd_q26:Binds K t.d_q26 ["_law_script", "_law_most", "_law_false_here"] []
  g_q26:mg "_law_web"=some (.ref t.f_q26)
  fn_q12:Fun K "_law_between" "_law_between" s_q12 t.f_q12 t.d_q12
  bd_q12:Binds K t.d_q12 ["_law_ties", "_law_one", "_law_other"] []
  g_q12:mg "_law_between"=some (.ref t.f_q12)
  fn_q25:Fun K "_law_table" "_law_table" s_q25 t.f_q25 t.d_q25
  bd_q25:Binds K t.d_q25 ["_law_ties", "_law_size"] []
  g_q25:mg "_law_table"=some (.ref t.f_q25)
  fn_q23:Fun K "_law_ranks" "_law_ranks" s_q23 t.f_q23 t.d_q23
  bd_q23:Binds K t.d_q23 ["_law_keys"] []
  g_q23:mg "_law_ranks"=some (.ref t.f_q23)
  fn_q22:Fun K "_law_parting" "_law_parting" s_q22 t.f_q22 t.d_q22
  bd_q22:Binds K t.d_q22 ["_law_script", "_law_size"] []
  g_q22:mg "_law_parting"=some (.ref t.f_q22)
  fn_q4:Fun K "is_place_kind" "is_place_kind" s_q4 t.f_q4 t.d_q4
  bd_q4:Binds K t.d_q4 ["kind"] []
  g_q4:mg "is_place_kind"=some (.ref t.f_q4)
  fn_q6:Fun K "is_tie_kind" "is_tie_kind" s_q6 t.f_q6 t.d_q6
  bd_q6:Binds K t.d_q6 ["kind"] []
  g_q6:mg "is_tie_kind"=some (.ref t.f_q6)
  fn_q5:Fun K "is_tie" "is_tie" s_q5 t.f_q5 t.d_q5
  bd_q5:Binds K t.d_q5 ["tie", "size"] []
  g_q5:mg "is_tie"=some (.ref t.f_q5)
  fn_q31:Fun K "refuse_wrong" "refuse_wrong" s_q31 t.f_q31 t.d_q31
  bd_q31:Binds K t.d_q31 ["kinds", "ties"] []
  g_q31:mg "refuse_wrong"=some (.ref t.f_q31)
  fn_q28:Fun K "lesser_first" "lesser_first" s_q28 t.f_q28 t.d_q28
  bd_q28:Binds K t.d_q28 ["tie"] []
  g_q28:mg "lesser_first"=some (.ref t.f_q28)
  fn_q29:Fun K "put_pair" "put_pair" s_q29 t.f_q29 t.d_q29
  bd_q29:Binds K t.d_q29 ["joins", "ends", "pair"] []
  g_q29:mg "put_pair"=some (.ref t.f_q29)
  fn_q7:Fun K "joins_of" "joins_of" s_q7 t.f_q7 t.d_q7
  bd_q7:Binds K t.d_q7 ["ties"] []
  g_q7:mg "joins_of"=some (.ref t.f_q7)
  fn_q0:Fun K "__init__" "Web.__init__" s_q0 t.f_q0 t.d_q0
  bd_q0:Binds K t.d_q0 ["self", "kinds", "ties"] []
  fn_q2:Fun K "size" "Web.size" s_q2 t.f_q2 t.d_q2
  bd_q2:Binds K t.d_q2 ["self"] []
  mt_q2:Meth K t.C "size" t.f_q2
  fn_q1:Fun K "between" "Web.between" s_q1 t.f_q1 t.d_q1
  bd_q1:Binds K t.d_q1 ["self", "one", "other"] []
  mt_q1:Meth K t.C "between" t.f_q1
  fn_q8:Fun K "key_of" "key_of" s_q8 t.f_q8 t.d_q8
  bd_q8:Binds K t.d_q8 ["web", "parting", "place"] []
  g_q8:mg "key_of"=some (.ref t.f_q8)
  fn_q9:Fun K "keys_of" "keys_of" s_q9 t.f_q9 t.d_q9
  bd_q9:Binds K t.d_q9 ["web", "parting"] []
  g_q9:mg "keys_of"=some (.ref t.f_q9)
  fn_q27:Fun K "_law_whole" "_law_whole" s_q27 t.f_q27 t.d_q27
  bd_q27:Binds K t.d_q27 ["_law_found"] []
  g_q27:mg "_law_whole"=some (.ref t.f_q27)
  fn_q19:Fun K "_law_numbers" "_law_numbers" s_q19 t.f_q19 t.d_q19
  bd_q19:Binds K t.d_q19 ["_law_found", "_law_due"] []
  g_q19:mg "_law_numbers"=some (.ref t.f_q19)
  fn_q30:Fun K "ranked" "ranked" s_q30 t.f_q30 t.d_q30
  bd_q30:Binds K t.d_q30 ["keys"] []
  g_q30:mg "ranked"=some (.ref t.f_q30)
  fn_q3:Fun K "finer" "finer" s_q3 t.f_q3 t.d_q3
  bd_q3:Binds K t.d_q3 ["web", "parting"] []
  g_q3:mg "finer"=some (.ref t.f_q3)
  fn_q10:Fun K "law" "law" s_q10 t.f_q10 t.d_q10
  bd_q10:Binds K t.d_q10 ["_law_script"] []
  g_q10:mg "law"=some (.ref t.f_q10)
  b_all:mg "all"=none
  b_bool:mg "bool"=none
  b_enumerate:mg "enumerate"=none
  b_int:mg "int"=none
  b_isinstance:mg "isinstance"=none
  b_len:mg "len"=none
  b_list:mg "list"=none
  b_range:mg "range"=none
  b_set:mg "set"=none
  b_sorted:mg "sorted"=none
  b_tuple:mg "tuple"=none
  c_MOST_PLACES:mg "MOST_PLACES"=some (.int 7 t.tk_MOST_PLACES)
  c_MOST_TIES:mg "MOST_TIES"=some (.int 12 t.tk_MOST_TIES)
  c_MOST_LETTERS:mg "MOST_LETTERS"=some (.int 3 t.tk_MOST_LETTERS)
noncomputable abbrev K0:PySem.W.Frag:=[]
noncomputable abbrev N_q24:List Str:=["_law_cell", "_law_factor"]
theorem sc_q24:FnScope N_q24 ["_law_cell", "_law_factor"] (defScope s_q24):=⟨rfl,rfl,rfl,by decide +kernel,rfl,by decide +kernel,by decide +kernel⟩
noncomputable def g_q24 (C:Addr):DF→Option RES:=
    (dRet (d2 modD (d2 mulD (d2 addA (d2 modD (getR 0) (fun _=>some (.int 2147483647))) (fun _=>some (.int 1))) (getR 1)) (fun _=>some (.int 2147483647))))
noncomputable def m_q24 (C:Addr):List DV→Option DV:=mOf 2 2 (g_q24 C)
theorem ok_q24 {P:Program} {w:World} {K:PySem.W.Frag} {mg:Str→Option Value} {base:Heap} {t:Adr} (T:Txt K mg t):FnOk P w K mg base CX0 1 t.f_q24 t.d_q24 ["_law_cell", "_law_factor"] (spD K (m_q24 t.C)):=
  T.fn_q24.okD sc_q24 fun cdv A outer s H E hr=>(pds_one (pd_ret (pd_mod (PDE.r (pd_mul (PDE.r (pd_addA (PDE.r (pd_mod (pdr_of 0 (pv 0)) (PDE.r pd_int))) (PDE.r pd_int))) (pdr_of 1 (pv 1)))) (PDE.r pd_int))))
noncomputable abbrev N_q11:List Str:=["_law_script", "_law_k"]
theorem sc_q11:FnScope N_q11 ["_law_script", "_law_k"] (defScope s_q11):=⟨rfl,rfl,rfl,by decide +kernel,rfl,by decide +kernel,by decide +kernel⟩
noncomputable def g_q11 (C:Addr):DF→Option RES:=
    (dSeq (dIf (asB (d2 ltd (getN 1) (d1 lenD (getN 0)))) (dRet (d2 ixD (getR 0) (getR 1))) dNx)
    (dRet (fun _=>some (.int 0))))
noncomputable def m_q11 (C:Addr):List DV→Option DV:=mOf 2 2 (g_q11 C)
theorem ok_q11 {P:Program} {w:World} {K:PySem.W.Frag} {mg:Str→Option Value} {base:Heap} {t:Adr} (T:Txt K mg t):FnOk P w K mg base CX0 1 t.f_q11 t.d_q11 ["_law_script", "_law_k"] (spD K (m_q11 t.C)):=
  T.fn_q11.okD sc_q11 fun cdv A outer s H E hr=>(pds_cons (pd_if (pt_ltd hr.h64 (pdn_of 1 (pv 1)) (PDE.n (pn_len rfl T.b_len (pdn_of 0 (pv 0))))) (pds_one (pd_ret (pd_ix (pdr_of 0 (pv 0)) (pdr_of 1 (pv 1))))) pds_nil) (pds_one (pd_ret pd_int)))
noncomputable abbrev N_q16:List Str:=["_law_script", "_law_bound", "_law_number", "_law_cell"]
theorem sc_q16:FnScope N_q16 ["_law_script", "_law_bound"] (defScope s_q16):=⟨rfl,rfl,rfl,by decide +kernel,rfl,by decide +kernel,by decide +kernel⟩
noncomputable def g_q16 (C:Addr):DF→Option RES:=
    (dSeq (dSet 2 (fun _=>some (.int 0)))
    (dSeq (dFor (borOf 0) (setV 3) (dSet 2 (d2 modD (d2 addA (d2 mulD (getR 2) (fun _=>some (.int 1000003))) (getR 3)) (getR 1))))
    (dRet (getV 2))))
noncomputable def m_q16 (C:Addr):List DV→Option DV:=mOf 4 2 (g_q16 C)
theorem ok_q16 {P:Program} {w:World} {K:PySem.W.Frag} {mg:Str→Option Value} {base:Heap} {t:Adr} (T:Txt K mg t):FnOk P w K mg base CX0 1 t.f_q16 t.d_q16 ["_law_script", "_law_bound"] (spD K (m_q16 t.C)):=
  T.fn_q16.okD sc_q16 fun cdv A outer s H E hr=>(pds_cons (pd_set (i:=2) sc_q16.nd rfl (by first | exact Or.inl rfl | exact Or.inr rfl) pd_int) (pds_cons (pd_for PassesOwn.never rfl (pdi_bor 0 (pv 0)) (pdg_name (i:=3) sc_q16.nd rfl (by first | exact Or.inl rfl | exact Or.inr rfl)) (pds_one (pd_set (i:=2) sc_q16.nd rfl (by first | exact Or.inl rfl | exact Or.inr rfl) (pd_mod (PDE.r (pd_addA (PDE.r (pd_mul (pdr_of 2 (pv 2)) (PDE.r pd_int))) (pdr_of 3 (pv 3)))) (pdr_of 1 (pv 1)))))) (pds_one (pd_ret (pde_of 2 (pv 2))))))
noncomputable abbrev N_q20:List Str:=["_law_script", "_law_size", "_law_factor", "_law_left", "_law_order_here", "_law_k", "_law_number"]
theorem sc_q20:FnScope N_q20 ["_law_script", "_law_size", "_law_factor"] (defScope s_q20):=⟨rfl,rfl,rfl,by decide +kernel,rfl,by decide +kernel,by decide +kernel⟩
noncomputable def g_q20 (C:Addr):DF→Option RES:=
    (dSeq (dSetO 3 (asL (lrng1 (getV 1))))
    (dSeq (dSetO 4 (asL lnil))
    (dSeq (dFor (rng1 (getR 1)) (setV 5) (dSeq (dSet 6 (callV (m_q24 C) (aV (d2 addA (callV (m_q11 C) (aB 0 (aB 5 (fun _=>some [])))) (d2 mulD (getR 5) (getR 5))) (aB 2 (fun _=>some [])))))
    (dAppPop 4 3 (d2 modD (d2 fdivD (getR 6) (fun _=>some (.int 3))) (d1 lenD (getN 3))))))
    (dRetS 4))))
noncomputable def m_q20 (C:Addr):List DV→Option DV:=mOf 7 3 (g_q20 C)
theorem ok_q20 {P:Program} {w:World} {K:PySem.W.Frag} {mg:Str→Option Value} {base:Heap} {t:Adr} (T:Txt K mg t):FnOk P w K mg base CX0 2 t.f_q20 t.d_q20 ["_law_script", "_law_size", "_law_factor"] (spD K (m_q20 t.C)):=
  T.fn_q20.okD sc_q20 fun cdv A outer s H E hr=>(pds_cons (pd_setO (i:=3) sc_q20.nd rfl (by first | exact Or.inl rfl | exact Or.inr rfl) (pdo_listRange rfl rfl T.b_list rfl T.b_range (pde_of 1 (pv 1)))) (pds_cons (pd_setO (i:=4) sc_q20.nd rfl (by first | exact Or.inl rfl | exact Or.inr rfl) (pdo_lst pdl_nil)) (pds_cons (pd_for PassesOwn.never rfl (pdi_range1 rfl T.b_range (pdr_of 1 (pv 1))) (pdg_name (i:=5) sc_q20.nd rfl (by first | exact Or.inl rfl | exact Or.inr rfl)) (pds_cons (pd_set (i:=6) sc_q20.nd rfl (by first | exact Or.inl rfl | exact Or.inr rfl) (pd_call (ok_q24 T) (hr.mono (by decide)) rfl T.g_q24 T.fn_q24.kp T.bd_q24 (pdv_v (pd_addA (PDE.r (pd_call (ok_q11 T) (hr.mono (by decide)) rfl T.g_q11 T.fn_q11.kp T.bd_q11 (pdv_b 0 (pv 0) (pdv_b 5 (pv 5) pdv_nil)))) (PDE.r (pd_mul (pdr_of 5 (pv 5)) (pdr_of 5 (pv 5))))) (pdv_b 2 (pv 2) pdv_nil)))) (pds_one (pd_appPop 4 3 (pv 4) (pv 3) (pd_mod (PDE.r (pd_fdiv (pdr_of 6 (pv 6)) (PDE.r pd_int))) (PDE.r (pn_len rfl T.b_len (pdn_of 3 (pv 3))))))))) (pds_one (pd_retS 4 (pv 4))))))
noncomputable abbrev N_q18:List Str:=["_law_script", "_law_size", "_law_number", "_law_long", "_law_at_here", "_law_sign", "_law_words", "_law_k", "_law_letter", "_law_many", "_law_kinds_here"]
theorem sc_q18:FnScope N_q18 ["_law_script", "_law_size"] (defScope s_q18):=⟨rfl,rfl,rfl,by decide +kernel,rfl,by decide +kernel,by decide +kernel⟩
noncomputable def g_q18 (C:Addr):DF→Option RES:=
    (dSeq (dSet 2 (callV (m_q24 C) (aV (callV (m_q11 C) (aB 0 (aV (fun _=>some (.int 1)) (fun _=>some [])))) (aV (fun _=>some (.int 1207959571)) (fun _=>some [])))))
    (dSeq (dSet 3 (d2 addA (fun _=>some (.int 1)) (d2 modD (getR 2) (fun _=>some (.int 3)))))
    (dSeq (dSet 4 (d2 modD (d2 fdivD (getR 2) (fun _=>some (.int 3))) (getR 3)))
    (dSeq (dSet 5 (d2 modD (d2 fdivD (getR 2) (fun _=>some (.int 9))) (fun _=>some (.int 11))))
    (dSeq (dSetO 6 (asL lnil))
    (dSeq (dFor (rng1 (fun _=>some (.int 2))) (setV 7) (dSeq (dSet 8 (d2 ixD (fun _=>some (.str "abcdefghijkl")) (d2 addA (getR 5) (getR 7))))
    (dApp 6 (d2 addA (d2 addA (d2 mulS (fun _=>some (.str "m")) (getR 4)) (getR 8)) (d2 mulS (fun _=>some (.str "m")) (d2 subD (d2 subD (getR 3) (fun _=>some (.int 1))) (getR 4)))))))
    (dSeq (dApp 6 (d2 mulS (fun _=>some (.str "m")) (getR 3)))
    (dSeq (dIf (asB (d2 eqD (d2 modD (d2 fdivD (getR 2) (fun _=>some (.int 396))) (fun _=>some (.int 3))) (fun _=>some (.int 0)))) (dSeq (dSet 8 (d2 ixD (fun _=>some (.str "abcdefghijkl")) (getR 5)))
    (dSetO 6 (asL (lcons (d2 ixD (fun _=>some (.str "abcdefghijkl")) (d2 addA (getR 5) (fun _=>some (.int 1)))) (lcons (d2 addA (getR 8) (fun _=>some (.str "m"))) (lcons (getV 8) lnil)))))) dNx)
    (dSeq (dSet 9 (d2 ixD (asO (asL (lcons (fun _=>some (.int 1)) (lcons (fun _=>some (.int 1)) (lcons (fun _=>some (.int 2)) (lcons (fun _=>some (.int 3)) lnil)))))) (d2 modD (d2 fdivD (getR 2) (fun _=>some (.int 99))) (fun _=>some (.int 4)))))
    (dSeq (dSetO 10 (asL lnil))
    (dSeq (dFor (rng1 (getR 1)) (setV 7) (dApp 10 (d2 ixD (getR 6) (d2 modD (d2 fdivD (callV (m_q24 C) (aV (d2 addA (getR 2) (d2 mulD (getR 7) (getR 7))) (aV (fun _=>some (.int 1618033989)) (fun _=>some [])))) (fun _=>some (.int 7))) (getR 9)))))
    (dRetS 10))))))))))))
noncomputable def m_q18 (C:Addr):List DV→Option DV:=mOf 11 2 (g_q18 C)
theorem ok_q18 {P:Program} {w:World} {K:PySem.W.Frag} {mg:Str→Option Value} {base:Heap} {t:Adr} (T:Txt K mg t):FnOk P w K mg base CX0 2 t.f_q18 t.d_q18 ["_law_script", "_law_size"] (spD K (m_q18 t.C)):=
  T.fn_q18.okD sc_q18 fun cdv A outer s H E hr=>(pds_cons (pd_set (i:=2) sc_q18.nd rfl (by first | exact Or.inl rfl | exact Or.inr rfl) (pd_call (ok_q24 T) (hr.mono (by decide)) rfl T.g_q24 T.fn_q24.kp T.bd_q24 (pdv_v (pd_call (ok_q11 T) (hr.mono (by decide)) rfl T.g_q11 T.fn_q11.kp T.bd_q11 (pdv_b 0 (pv 0) (pdv_v pd_int pdv_nil))) (pdv_v pd_int pdv_nil)))) (pds_cons (pd_set (i:=3) sc_q18.nd rfl (by first | exact Or.inl rfl | exact Or.inr rfl) (pd_addA (PDE.r pd_int) (PDE.r (pd_mod (pdr_of 2 (pv 2)) (PDE.r pd_int))))) (pds_cons (pd_set (i:=4) sc_q18.nd rfl (by first | exact Or.inl rfl | exact Or.inr rfl) (pd_mod (PDE.r (pd_fdiv (pdr_of 2 (pv 2)) (PDE.r pd_int))) (pdr_of 3 (pv 3)))) (pds_cons (pd_set (i:=5) sc_q18.nd rfl (by first | exact Or.inl rfl | exact Or.inr rfl) (pd_mod (PDE.r (pd_fdiv (pdr_of 2 (pv 2)) (PDE.r pd_int))) (PDE.r pd_int))) (pds_cons (pd_setO (i:=6) sc_q18.nd rfl (by first | exact Or.inl rfl | exact Or.inr rfl) (pdo_lst pdl_nil)) (pds_cons (pd_for PassesOwn.never rfl (pdi_range1 rfl T.b_range (PDE.r pd_int)) (pdg_name (i:=7) sc_q18.nd rfl (by first | exact Or.inl rfl | exact Or.inr rfl)) (pds_cons (pd_set (i:=8) sc_q18.nd rfl (by first | exact Or.inl rfl | exact Or.inr rfl) (pd_ix (PDE.r pd_str) (PDE.r (pd_addA (pdr_of 5 (pv 5)) (pdr_of 7 (pv 7)))))) (pds_one (pd_append 6 (pv 6) (pd_addA (PDE.r (pd_addA (PDE.r (pd_mulS (PDE.r pd_str) (pdr_of 4 (pv 4)))) (pdr_of 8 (pv 8)))) (PDE.r (pd_mulS (PDE.r pd_str) (PDE.r (pd_sub (PDE.r (pd_sub (pdr_of 3 (pv 3)) (PDE.r pd_int))) (pdr_of 4 (pv 4))))))))))) (pds_cons (pd_append 6 (pv 6) (pd_mulS (PDE.r pd_str) (pdr_of 3 (pv 3)))) (pds_cons (pd_if (pt_eq hr.h64 (PDE.n (pd_mod (PDE.r (pd_fdiv (pdr_of 2 (pv 2)) (PDE.r pd_int))) (PDE.r pd_int))) (PDE.n pd_int)) (pds_cons (pd_set (i:=8) sc_q18.nd rfl (by first | exact Or.inl rfl | exact Or.inr rfl) (pd_ix (PDE.r pd_str) (pdr_of 5 (pv 5)))) (pds_one (pd_setO (i:=6) sc_q18.nd rfl (by first | exact Or.inl rfl | exact Or.inr rfl) (pdo_lst (pdl_cons (pd_ix (PDE.r pd_str) (PDE.r (pd_addA (pdr_of 5 (pv 5)) (PDE.r pd_int)))) (pdl_cons (pd_addA (pdr_of 8 (pv 8)) (PDE.r pd_str)) (pdl_cons (pde_of 8 (pv 8)) pdl_nil))))))) pds_nil) (pds_cons (pd_set (i:=9) sc_q18.nd rfl (by first | exact Or.inl rfl | exact Or.inr rfl) (pd_ix (PDE.r (PDO.v (pdo_lst (pdl_cons pd_int (pdl_cons pd_int (pdl_cons pd_int (pdl_cons pd_int pdl_nil))))))) (PDE.r (pd_mod (PDE.r (pd_fdiv (pdr_of 2 (pv 2)) (PDE.r pd_int))) (PDE.r pd_int))))) (pds_cons (pd_setO (i:=10) sc_q18.nd rfl (by first | exact Or.inl rfl | exact Or.inr rfl) (pdo_lst pdl_nil)) (pds_cons (pd_for PassesOwn.never rfl (pdi_range1 rfl T.b_range (pdr_of 1 (pv 1))) (pdg_name (i:=7) sc_q18.nd rfl (by first | exact Or.inl rfl | exact Or.inr rfl)) (pds_one (pd_append 10 (pv 10) (pd_ix (pdr_of 6 (pv 6)) (PDE.r (pd_mod (PDE.r (pd_fdiv (PDE.r (pd_call (ok_q24 T) (hr.mono (by decide)) rfl T.g_q24 T.fn_q24.kp T.bd_q24 (pdv_v (pd_addA (pdr_of 2 (pv 2)) (PDE.r (pd_mul (pdr_of 7 (pv 7)) (pdr_of 7 (pv 7))))) (pdv_v pd_int pdv_nil)))) (PDE.r pd_int))) (pdr_of 9 (pv 9)))))))) (pds_one (pd_retS 10 (pv 10))))))))))))))
noncomputable abbrev N_q15:List Str:=["_law_script", "_law_number", "_law_kind", "_law_oneway", "_law_most", "_law_ties", "_law_size", "_law_far", "_law_order_here", "_law_kinds_here"]
theorem sc_q15:FnScope N_q15 ["_law_script", "_law_number", "_law_kind", "_law_oneway", "_law_most"] (defScope s_q15):=⟨rfl,rfl,rfl,by decide +kernel,rfl,by decide +kernel,by decide +kernel⟩
noncomputable def g_q15 (C:Addr):DF→Option RES:=
    (dSeq (dSet 5 (asO (asL (dComp 1 [2,3] (rng1 (fun _=>some (.int 6))) (setV 0) dYes (asT (lcons (getV 0) (lcons (d2 modD (d2 addA (getR 0) (fun _=>some (.int 1))) (fun _=>some (.int 6))) (lcons (getV 1) (lcons (getV 2) lnil)))))))))
    (dSeq (dSet 6 (fun _=>some (.int 6)))
    (dSeq (dIf (andT (asB (d2 gtI (getR 4) (fun _=>some (.int 6)))) (asB (d2 eqD (d2 modD (getR 1) (fun _=>some (.int 2))) (fun _=>some (.int 0))))) (dSeq (dSet 5 (asO (asL (dComp 1 [2,3] (rng1 (fun _=>some (.int 3))) (setV 0) dYes (asT (lcons (getV 0) (lcons (d2 modD (d2 addA (getR 0) (fun _=>some (.int 1))) (fun _=>some (.int 3))) (lcons (getV 1) (lcons (getV 2) lnil)))))))))
    (dSeq (dSet 5 (d2 addA (getR 5) (asO (asL (dComp 1 [2,3] (rng1 (fun _=>some (.int 4))) (setV 0) dYes (asT (lcons (d2 addA (fun _=>some (.int 3)) (getR 0)) (lcons (d2 addA (fun _=>some (.int 3)) (d2 modD (d2 addA (getR 0) (fun _=>some (.int 1))) (fun _=>some (.int 4)))) (lcons (getV 1) (lcons (getV 2) lnil))))))))))
    (dSet 6 (fun _=>some (.int 7))))) (dSeq (dSet 7 (d2 modD (d2 addA (getR 2) (fun _=>some (.int 1))) (d2 powD (fun _=>some (.int 10)) (fun _=>some (.int 30)))))
    (dSet 5 (d2 addA (getR 5) (asO (asL (lcons (asT (lcons (fun _=>some (.int 0)) (lcons (fun _=>some (.int 2)) (lcons (getV 7) (lcons (fun _=>some (.bl false)) lnil))))) (lcons (asT (lcons (fun _=>some (.int 3)) (lcons (fun _=>some (.int 5)) (lcons (getV 7) (lcons (fun _=>some (.bl false)) lnil))))) (lcons (asT (lcons (fun _=>some (.int 1)) (lcons (fun _=>some (.int 4)) (lcons (getV 7) (lcons (fun _=>some (.bl false)) lnil))))) lnil)))))))))
    (dSeq (dSet 8 (callV (m_q20 C) (aB 0 (aV (getV 6) (aV (fun _=>some (.int 742938285)) (fun _=>some []))))))
    (dSeq (dSet 9 (asO (asL (dComp 1 [0] (rng1 (getR 6)) (setV 0) dYes (d2 ixD (callV (m_q18 C) (aB 1 (aV (fun _=>some (.int 1)) (fun _=>some [])))) (fun _=>some (.int 0)))))))
    (dRet (asT (lcons (getV 9) (lcons (asO (asL (dComp 1 [8] (borOf 5) (setV 0) dYes (asT (lcons (d2 ixD (getR 1) (d2 ixD (getR 0) (fun _=>some (.int 0)))) (lcons (d2 ixD (getR 1) (d2 ixD (getR 0) (fun _=>some (.int 1)))) (lcons (d2 ixD (getR 0) (fun _=>some (.int 2))) (lcons (d2 ixD (getR 0) (fun _=>some (.int 3))) lnil)))))))) lnil)))))))))
noncomputable def m_q15 (C:Addr):List DV→Option DV:=mOf 10 5 (g_q15 C)
theorem ok_q15 {P:Program} {w:World} {K:PySem.W.Frag} {mg:Str→Option Value} {base:Heap} {t:Adr} (T:Txt K mg t):FnOk P w K mg base CX0 3 t.f_q15 t.d_q15 ["_law_script", "_law_number", "_law_kind", "_law_oneway", "_law_most"] (spD K (m_q15 t.C)):=
  T.fn_q15.okD sc_q15 fun cdv A outer s H E hr=>(pds_cons (pd_setComp (i:=5) (N:=["_law_k", "_law_kind", "_law_oneway"]) (own:=1) (ix:=[2,3]) (is:=[0]) sc_q15.nd rfl (by first | exact Or.inl rfl | exact Or.inr rfl) rfl (bs_mk (defScope s_q15) rfl (by decide +kernel)) (cp_mk N_q15 rfl (by decide +kernel)) (his_mk (by decide)) (pdi_range1 rfl T.b_range (PDE.r pd_int)) (fun _ _ _ _=>(pdg_name (i:=0) (show (["_law_k", "_law_kind", "_law_oneway"]:List Str).Nodup from by decide +kernel) rfl (by first | exact Or.inl rfl | exact Or.inr rfl))) (fun _ _ _ _=>pifs0) (fun _ _ _ _=>(pd_tup (pdl_cons (pde_of 0 (pv 0)) (pdl_cons (pd_mod (PDE.r (pd_addA (pdr_of 0 (pv 0)) (PDE.r pd_int))) (PDE.r pd_int)) (pdl_cons (pde_of 1 (pv 1)) (pdl_cons (pde_of 2 (pv 2)) pdl_nil)))))) (by decide +kernel)) (pds_cons (pd_set (i:=6) sc_q15.nd rfl (by first | exact Or.inl rfl | exact Or.inr rfl) pd_int) (pds_cons (pd_if (PDW.t (pw_andD (pt_gt (pdr_of 4 (pv 4)) (PDE.r pd_int)) (pw_and1D (pt_eq hr.h64 (PDE.n (pd_mod (pdr_of 1 (pv 1)) (PDE.r pd_int))) (PDE.n pd_int))))) (pds_cons (pd_setComp (i:=5) (N:=["_law_k", "_law_kind", "_law_oneway"]) (own:=1) (ix:=[2,3]) (is:=[0]) sc_q15.nd rfl (by first | exact Or.inl rfl | exact Or.inr rfl) rfl (bs_mk (defScope s_q15) rfl (by decide +kernel)) (cp_mk N_q15 rfl (by decide +kernel)) (his_mk (by decide)) (pdi_range1 rfl T.b_range (PDE.r pd_int)) (fun _ _ _ _=>(pdg_name (i:=0) (show (["_law_k", "_law_kind", "_law_oneway"]:List Str).Nodup from by decide +kernel) rfl (by first | exact Or.inl rfl | exact Or.inr rfl))) (fun _ _ _ _=>pifs0) (fun _ _ _ _=>(pd_tup (pdl_cons (pde_of 0 (pv 0)) (pdl_cons (pd_mod (PDE.r (pd_addA (pdr_of 0 (pv 0)) (PDE.r pd_int))) (PDE.r pd_int)) (pdl_cons (pde_of 1 (pv 1)) (pdl_cons (pde_of 2 (pv 2)) pdl_nil)))))) (by decide +kernel)) (pds_cons (pd_set (i:=5) sc_q15.nd rfl (by first | exact Or.inl rfl | exact Or.inr rfl) (pd_addA (pdr_of 5 (pv 5)) (PDE.r (PDO.v (pdo_comp (N:=["_law_k", "_law_kind", "_law_oneway"]) (own:=1) (ix:=[2,3]) (is:=[0]) rfl (bs_mk (defScope s_q15) rfl (by decide +kernel)) (cp_mk N_q15 rfl (by decide +kernel)) (his_mk (by decide)) (pdi_range1 rfl T.b_range (PDE.r pd_int)) (fun _ _ _ _=>(pdg_name (i:=0) (show (["_law_k", "_law_kind", "_law_oneway"]:List Str).Nodup from by decide +kernel) rfl (by first | exact Or.inl rfl | exact Or.inr rfl))) (fun _ _ _ _=>pifs0) (fun _ _ _ _=>(pd_tup (pdl_cons (pd_addA (PDE.r pd_int) (pdr_of 0 (pv 0))) (pdl_cons (pd_addA (PDE.r pd_int) (PDE.r (pd_mod (PDE.r (pd_addA (pdr_of 0 (pv 0)) (PDE.r pd_int))) (PDE.r pd_int)))) (pdl_cons (pde_of 1 (pv 1)) (pdl_cons (pde_of 2 (pv 2)) pdl_nil)))))) (by decide +kernel)))))) (pds_one (pd_set (i:=6) sc_q15.nd rfl (by first | exact Or.inl rfl | exact Or.inr rfl) pd_int)))) (pds_cons (pd_set (i:=7) sc_q15.nd rfl (by first | exact Or.inl rfl | exact Or.inr rfl) (pd_mod (PDE.r (pd_addA (pdr_of 2 (pv 2)) (PDE.r pd_int))) (PDE.r (pd_pow (PDE.r pd_int) (PDE.r pd_int))))) (pds_one (pd_set (i:=5) sc_q15.nd rfl (by first | exact Or.inl rfl | exact Or.inr rfl) (pd_addA (pdr_of 5 (pv 5)) (PDE.r (PDO.v (pdo_lst (pdl_cons (pd_tup (pdl_cons pd_int (pdl_cons pd_int (pdl_cons (pde_of 7 (pv 7)) (pdl_cons pd_bl pdl_nil))))) (pdl_cons (pd_tup (pdl_cons pd_int (pdl_cons pd_int (pdl_cons (pde_of 7 (pv 7)) (pdl_cons pd_bl pdl_nil))))) (pdl_cons (pd_tup (pdl_cons pd_int (pdl_cons pd_int (pdl_cons (pde_of 7 (pv 7)) (pdl_cons pd_bl pdl_nil))))) pdl_nil))))))))))) (pds_cons (pd_set (i:=8) sc_q15.nd rfl (by first | exact Or.inl rfl | exact Or.inr rfl) (pd_call (ok_q20 T) (hr.mono (by decide)) rfl T.g_q20 T.fn_q20.kp T.bd_q20 (pdv_b 0 (pv 0) (pdv_v (pde_of 6 (pv 6)) (pdv_v pd_int pdv_nil))))) (pds_cons (pd_setComp (i:=9) (N:=["_law_place", "_law_script"]) (own:=1) (ix:=[0]) (is:=[0]) sc_q15.nd rfl (by first | exact Or.inl rfl | exact Or.inr rfl) rfl (bs_mk (defScope s_q15) rfl (by decide +kernel)) (cp_mk N_q15 rfl (by decide +kernel)) (his_mk (by decide)) (pdi_range1 rfl T.b_range (pdr_of 6 (pv 6))) (fun _ _ _ _=>(pdg_name (i:=0) (show (["_law_place", "_law_script"]:List Str).Nodup from by decide +kernel) rfl (by first | exact Or.inl rfl | exact Or.inr rfl))) (fun _ _ _ _=>pifs0) (fun _ _ _ _=>(pd_ix (PDE.r (pd_call (ok_q18 T) (hr.mono (by decide)) rfl T.g_q18 T.fn_q18.kp T.bd_q18 (pdv_b 1 (pv 1) (pdv_v pd_int pdv_nil)))) (PDE.r pd_int))) (by decide +kernel)) (pds_one (pd_ret (pd_tup (pdl_cons (pde_of 9 (pv 9)) (pdl_cons (PDO.v (pdo_comp (N:=["_law_tie", "_law_order_here"]) (own:=1) (ix:=[8]) (is:=[0]) rfl (bs_mk (defScope s_q15) rfl (by decide +kernel)) (cp_mk N_q15 rfl (by decide +kernel)) (his_mk (by decide)) (pdi_bor 5 (pv 5)) (fun _ _ _ _=>(pdg_name (i:=0) (show (["_law_tie", "_law_order_here"]:List Str).Nodup from by decide +kernel) rfl (by first | exact Or.inl rfl | exact Or.inr rfl))) (fun _ _ _ _=>pifs0) (fun _ _ _ _=>(pd_tup (pdl_cons (pd_ix (pdr_of 1 (pv 1)) (PDE.r (pd_ix (pdr_of 0 (pv 0)) (PDE.r pd_int)))) (pdl_cons (pd_ix (pdr_of 1 (pv 1)) (PDE.r (pd_ix (pdr_of 0 (pv 0)) (PDE.r pd_int)))) (pdl_cons (pd_ix (pdr_of 0 (pv 0)) (PDE.r pd_int)) (pdl_cons (pd_ix (pdr_of 0 (pv 0)) (PDE.r pd_int)) pdl_nil)))))) (by decide +kernel))) pdl_nil))))))))))
noncomputable abbrev N_q14:List Str:=["_law_script", "_law_size", "_law_ties", "_law_k", "_law_cell", "_law_number", "_law_one", "_law_other", "_law_kind"]
theorem sc_q14:FnScope N_q14 ["_law_script", "_law_size"] (defScope s_q14):=⟨rfl,rfl,rfl,by decide +kernel,rfl,by decide +kernel,by decide +kernel⟩
noncomputable def g_q14 (C:Addr):DF→Option RES:=
    (dSeq (dSetO 2 (asL lnil))
    (dSeq (dFor (enumOf (asO (asL (slL (getR 0) (bI (fun _=>some (.int 2))) (bI (fun _=>some (.int 14))))))) (setT [3,4]) (dSeq (dSet 5 (callV (m_q24 C) (aB 4 (aV (fun _=>some (.int 1530421987)) (fun _=>some [])))))
    (dIf (andT (asB (d2 gtI (getR 1) (fun _=>some (.int 1)))) (asB (d2 gtI (d2 modD (getR 5) (fun _=>some (.int 4))) (fun _=>some (.int 0))))) (dSeq (dSet 6 (d2 modD (d2 fdivD (getR 5) (fun _=>some (.int 4))) (getR 1)))
    (dSeq (dSet 7 (d2 modD (d2 addA (d2 addA (getR 6) (fun _=>some (.int 1))) (d2 modD (d2 fdivD (getR 5) (fun _=>some (.int 28))) (d2 subD (getR 1) (fun _=>some (.int 1))))) (getR 1)))
    (dSeq (dSet 8 (d2 modD (d2 fdivD (getR 5) (fun _=>some (.int 168))) (fun _=>some (.int 2))))
    (dSeq (dIf (asB (d2 eqD (d2 modD (d2 fdivD (getR 5) (fun _=>some (.int 336))) (fun _=>some (.int 2))) (fun _=>some (.int 0)))) (dSet 8 (d2 modD (d2 addA (getR 4) (getR 3)) (d2 powD (fun _=>some (.int 10)) (fun _=>some (.int 30))))) dNx)
    (dApp 2 (asT (lcons (getV 6) (lcons (getV 7) (lcons (getV 8) (lcons (d2 eqD (d2 modD (d2 fdivD (getR 5) (fun _=>some (.int 672))) (fun _=>some (.int 2))) (fun _=>some (.int 1))) lnil)))))))))) dNx)))
    (dRetS 2)))
noncomputable def m_q14 (C:Addr):List DV→Option DV:=mOf 9 2 (g_q14 C)
theorem ok_q14 {P:Program} {w:World} {K:PySem.W.Frag} {mg:Str→Option Value} {base:Heap} {t:Adr} (T:Txt K mg t):FnOk P w K mg base CX0 2 t.f_q14 t.d_q14 ["_law_script", "_law_size"] (spD K (m_q14 t.C)):=
  T.fn_q14.okD sc_q14 fun cdv A outer s H E hr=>(pds_cons (pd_setO (i:=2) sc_q14.nd rfl (by first | exact Or.inl rfl | exact Or.inr rfl) (pdo_lst pdl_nil)) (pds_cons (pd_for PassesOwn.never rfl (pdi_enum rfl T.b_enumerate (PDO.v (pdo_slice (pdr_of 0 (pv 0)) (pdb_i pd_int) (pdb_i pd_int)))) (pdg_tup (is:=[3,4]) rfl (pgs_cons (pg_name (i:=3) sc_q14.nd rfl (by first | exact Or.inl rfl | exact Or.inr rfl)) (pgs_cons (pg_name (i:=4) sc_q14.nd rfl (by first | exact Or.inl rfl | exact Or.inr rfl)) pgs_nil))) (pds_cons (pd_set (i:=5) sc_q14.nd rfl (by first | exact Or.inl rfl | exact Or.inr rfl) (pd_call (ok_q24 T) (hr.mono (by decide)) rfl T.g_q24 T.fn_q24.kp T.bd_q24 (pdv_b 4 (pv 4) (pdv_v pd_int pdv_nil)))) (pds_one (pd_if (PDW.t (pw_andD (pt_gt (pdr_of 1 (pv 1)) (PDE.r pd_int)) (pw_and1D (pt_gt (PDE.r (pd_mod (pdr_of 5 (pv 5)) (PDE.r pd_int))) (PDE.r pd_int))))) (pds_cons (pd_set (i:=6) sc_q14.nd rfl (by first | exact Or.inl rfl | exact Or.inr rfl) (pd_mod (PDE.r (pd_fdiv (pdr_of 5 (pv 5)) (PDE.r pd_int))) (pdr_of 1 (pv 1)))) (pds_cons (pd_set (i:=7) sc_q14.nd rfl (by first | exact Or.inl rfl | exact Or.inr rfl) (pd_mod (PDE.r (pd_addA (PDE.r (pd_addA (pdr_of 6 (pv 6)) (PDE.r pd_int))) (PDE.r (pd_mod (PDE.r (pd_fdiv (pdr_of 5 (pv 5)) (PDE.r pd_int))) (PDE.r (pd_sub (pdr_of 1 (pv 1)) (PDE.r pd_int))))))) (pdr_of 1 (pv 1)))) (pds_cons (pd_set (i:=8) sc_q14.nd rfl (by first | exact Or.inl rfl | exact Or.inr rfl) (pd_mod (PDE.r (pd_fdiv (pdr_of 5 (pv 5)) (PDE.r pd_int))) (PDE.r pd_int))) (pds_cons (pd_if (pt_eq hr.h64 (PDE.n (pd_mod (PDE.r (pd_fdiv (pdr_of 5 (pv 5)) (PDE.r pd_int))) (PDE.r pd_int))) (PDE.n pd_int)) (pds_one (pd_set (i:=8) sc_q14.nd rfl (by first | exact Or.inl rfl | exact Or.inr rfl) (pd_mod (PDE.r (pd_addA (pdr_of 4 (pv 4)) (pdr_of 3 (pv 3)))) (PDE.r (pd_pow (PDE.r pd_int) (PDE.r pd_int)))))) pds_nil) (pds_one (pd_append 2 (pv 2) (pd_tup (pdl_cons (pde_of 6 (pv 6)) (pdl_cons (pde_of 7 (pv 7)) (pdl_cons (pde_of 8 (pv 8)) (pdl_cons (pd_eq hr.h64 (PDE.n (pd_mod (PDE.r (pd_fdiv (pdr_of 5 (pv 5)) (PDE.r pd_int))) (PDE.r pd_int))) (PDE.n pd_int)) pdl_nil))))))))))) pds_nil)))) (pds_one (pd_retS 2 (pv 2)))))
noncomputable abbrev N_q17:List Str:=["_law_half", "_law_pairs_here", "_law_k"]
theorem sc_q17:FnScope N_q17 ["_law_half"] (defScope s_q17):=⟨rfl,rfl,rfl,by decide +kernel,rfl,by decide +kernel,by decide +kernel⟩
noncomputable def g_q17 (C:Addr):DF→Option RES:=
    (dSeq (dSetO 1 (asL lnil))
    (dSeq (dFor (rng1 (d2 subD (getR 0) (fun _=>some (.int 1)))) (setV 2) (dSeq (dApp 1 (asT (lcons (getV 2) (lcons (d2 addA (getR 2) (fun _=>some (.int 1))) lnil))))
    (dApp 1 (asT (lcons (d2 addA (getR 0) (getR 2)) (lcons (d2 addA (d2 addA (getR 0) (getR 2)) (fun _=>some (.int 1))) lnil))))))
    (dSeq (dIf (asB (d2 gtI (getR 0) (fun _=>some (.int 2)))) (dSeq (dApp 1 (asT (lcons (d2 subD (getR 0) (fun _=>some (.int 1))) (lcons (fun _=>some (.int 0)) lnil))))
    (dApp 1 (asT (lcons (d2 subD (d2 mulD (fun _=>some (.int 2)) (getR 0)) (fun _=>some (.int 1))) (lcons (getV 0) lnil))))) dNx)
    (dRetS 1))))
noncomputable def m_q17 (C:Addr):List DV→Option DV:=mOf 3 1 (g_q17 C)
theorem ok_q17 {P:Program} {w:World} {K:PySem.W.Frag} {mg:Str→Option Value} {base:Heap} {t:Adr} (T:Txt K mg t):FnOk P w K mg base CX0 1 t.f_q17 t.d_q17 ["_law_half"] (spD K (m_q17 t.C)):=
  T.fn_q17.okD sc_q17 fun cdv A outer s H E hr=>(pds_cons (pd_setO (i:=1) sc_q17.nd rfl (by first | exact Or.inl rfl | exact Or.inr rfl) (pdo_lst pdl_nil)) (pds_cons (pd_for PassesOwn.never rfl (pdi_range1 rfl T.b_range (PDE.r (pd_sub (pdr_of 0 (pv 0)) (PDE.r pd_int)))) (pdg_name (i:=2) sc_q17.nd rfl (by first | exact Or.inl rfl | exact Or.inr rfl)) (pds_cons (pd_append 1 (pv 1) (pd_tup (pdl_cons (pde_of 2 (pv 2)) (pdl_cons (pd_addA (pdr_of 2 (pv 2)) (PDE.r pd_int)) pdl_nil)))) (pds_one (pd_append 1 (pv 1) (pd_tup (pdl_cons (pd_addA (pdr_of 0 (pv 0)) (pdr_of 2 (pv 2))) (pdl_cons (pd_addA (PDE.r (pd_addA (pdr_of 0 (pv 0)) (pdr_of 2 (pv 2)))) (PDE.r pd_int)) pdl_nil))))))) (pds_cons (pd_if (pt_gt (pdr_of 0 (pv 0)) (PDE.r pd_int)) (pds_cons (pd_append 1 (pv 1) (pd_tup (pdl_cons (pd_sub (pdr_of 0 (pv 0)) (PDE.r pd_int)) (pdl_cons pd_int pdl_nil)))) (pds_one (pd_append 1 (pv 1) (pd_tup (pdl_cons (pd_sub (PDE.r (pd_mul (PDE.r pd_int) (pdr_of 0 (pv 0)))) (PDE.r pd_int)) (pdl_cons (pde_of 0 (pv 0)) pdl_nil)))))) pds_nil) (pds_one (pd_retS 1 (pv 1))))))
noncomputable abbrev N_q13:List Str:=["_law_size", "_law_pairs_here", "_law_one", "_law_other"]
theorem sc_q13:FnScope N_q13 ["_law_size"] (defScope s_q13):=⟨rfl,rfl,rfl,by decide +kernel,rfl,by decide +kernel,by decide +kernel⟩
noncomputable def g_q13 (C:Addr):DF→Option RES:=
    (dSeq (dSetO 1 (asL lnil))
    (dSeq (dFor (rng1 (d2 fdivD (getR 0) (fun _=>some (.int 2)))) (setV 2) (dFor (rng2 (d2 fdivD (getR 0) (fun _=>some (.int 2))) (getR 0)) (setV 3) (dApp 1 (asT (lcons (getV 2) (lcons (getV 3) lnil))))))
    (dRetS 1)))
noncomputable def m_q13 (C:Addr):List DV→Option DV:=mOf 4 1 (g_q13 C)
theorem ok_q13 {P:Program} {w:World} {K:PySem.W.Frag} {mg:Str→Option Value} {base:Heap} {t:Adr} (T:Txt K mg t):FnOk P w K mg base CX0 1 t.f_q13 t.d_q13 ["_law_size"] (spD K (m_q13 t.C)):=
  T.fn_q13.okD sc_q13 fun cdv A outer s H E hr=>(pds_cons (pd_setO (i:=1) sc_q13.nd rfl (by first | exact Or.inl rfl | exact Or.inr rfl) (pdo_lst pdl_nil)) (pds_cons (pd_for PassesOwn.never rfl (pdi_range1 rfl T.b_range (PDE.r (pd_fdiv (pdr_of 0 (pv 0)) (PDE.r pd_int)))) (pdg_name (i:=2) sc_q13.nd rfl (by first | exact Or.inl rfl | exact Or.inr rfl)) (pds_one (pd_for PassesOwn.never rfl (pdi_range2 rfl T.b_range (PDE.r (pd_fdiv (pdr_of 0 (pv 0)) (PDE.r pd_int))) (pdr_of 0 (pv 0))) (pdg_name (i:=3) sc_q13.nd rfl (by first | exact Or.inl rfl | exact Or.inr rfl)) (pds_one (pd_append 1 (pv 1) (pd_tup (pdl_cons (pde_of 2 (pv 2)) (pdl_cons (pde_of 3 (pv 3)) pdl_nil)))))))) (pds_one (pd_retS 1 (pv 1)))))
noncomputable abbrev N_q21:List Str:=["_law_size", "_law_family"]
theorem sc_q21:FnScope N_q21 ["_law_size", "_law_family"] (defScope s_q21):=⟨rfl,rfl,rfl,by decide +kernel,rfl,by decide +kernel,by decide +kernel⟩
noncomputable def g_q21 (C:Addr):DF→Option RES:=
    (dSeq (dIf (andT (asB (d2 eqD (getN 1) (fun _=>some (.int 1)))) (asB (d2 gtI (getR 0) (fun _=>some (.int 2))))) (dRetO (asL (dComp 1 [0] (rng1 (getR 0)) (setV 0) dYes (asT (lcons (getV 0) (lcons (d2 modD (d2 addA (getR 0) (fun _=>some (.int 1))) (getR 1)) lnil)))))) dNx)
    (dSeq (dIf (asB (d2 eqD (getN 1) (fun _=>some (.int 2)))) (dRetO (asL (dComp 1 [] (rng2 (fun _=>some (.int 1)) (getR 0)) (setV 0) dYes (asT (lcons (fun _=>some (.int 0)) (lcons (getV 0) lnil)))))) dNx)
    (dSeq (dIf (asB (d2 eqD (getN 1) (fun _=>some (.int 3)))) (dRetO (callO (m_q17 C) (aV (d2 fdivD (getR 0) (fun _=>some (.int 2))) (fun _=>some [])))) dNx)
    (dSeq (dIf (andT (asB (d2 eqD (getN 1) (fun _=>some (.int 4)))) (asB (d2 eqD (getN 0) (fun _=>some (.int 5))))) (dRetO (asL (dComp 1 [] (rng1 (fun _=>some (.int 10))) (setV 0) dYes (asT (lcons (d2 modD (getR 0) (fun _=>some (.int 5))) (lcons (d2 modD (d2 addA (d2 addA (getR 0) (fun _=>some (.int 1))) (d2 fdivD (getR 0) (fun _=>some (.int 5)))) (fun _=>some (.int 5))) lnil)))))) dNx)
    (dSeq (dIf (asB (d2 eqD (getN 1) (fun _=>some (.int 5)))) (dRetO (callO (m_q13 C) (aB 0 (fun _=>some [])))) dNx)
    (dRetO (asL lnil)))))))
noncomputable def m_q21 (C:Addr):List DV→Option DV:=mOf 2 2 (g_q21 C)
theorem ok_q21 {P:Program} {w:World} {K:PySem.W.Frag} {mg:Str→Option Value} {base:Heap} {t:Adr} (T:Txt K mg t):FnOk P w K mg base CX0 2 t.f_q21 t.d_q21 ["_law_size", "_law_family"] (spD K (m_q21 t.C)):=
  T.fn_q21.okD sc_q21 fun cdv A outer s H E hr=>(pds_cons (pd_if (PDW.t (pw_andD (pt_eq hr.h64 (pdn_of 1 (pv 1)) (PDE.n pd_int)) (pw_and1D (pt_gt (pdr_of 0 (pv 0)) (PDE.r pd_int))))) (pds_one (pd_retO (pdo_comp (N:=["_law_k", "_law_size"]) (own:=1) (ix:=[0]) (is:=[0]) rfl (bs_mk (defScope s_q21) rfl (by decide +kernel)) (cp_mk N_q21 rfl (by decide +kernel)) (his_mk (by decide)) (pdi_range1 rfl T.b_range (pdr_of 0 (pv 0))) (fun _ _ _ _=>(pdg_name (i:=0) (show (["_law_k", "_law_size"]:List Str).Nodup from by decide +kernel) rfl (by first | exact Or.inl rfl | exact Or.inr rfl))) (fun _ _ _ _=>pifs0) (fun _ _ _ _=>(pd_tup (pdl_cons (pde_of 0 (pv 0)) (pdl_cons (pd_mod (PDE.r (pd_addA (pdr_of 0 (pv 0)) (PDE.r pd_int))) (pdr_of 1 (pv 1))) pdl_nil)))) (by decide +kernel)))) pds_nil) (pds_cons (pd_if (pt_eq hr.h64 (pdn_of 1 (pv 1)) (PDE.n pd_int)) (pds_one (pd_retO (pdo_comp (N:=["_law_k"]) (own:=1) (ix:=[]) (is:=[0]) rfl (bs_mk (defScope s_q21) rfl (by decide +kernel)) (cp_mk N_q21 rfl (by decide +kernel)) (his_mk (by decide)) (pdi_range2 rfl T.b_range (PDE.r pd_int) (pdr_of 0 (pv 0))) (fun _ _ _ _=>(pdg_name (i:=0) (show (["_law_k"]:List Str).Nodup from by decide +kernel) rfl (by first | exact Or.inl rfl | exact Or.inr rfl))) (fun _ _ _ _=>pifs0) (fun _ _ _ _=>(pd_tup (pdl_cons pd_int (pdl_cons (pde_of 0 (pv 0)) pdl_nil)))) (by decide +kernel)))) pds_nil) (pds_cons (pd_if (pt_eq hr.h64 (pdn_of 1 (pv 1)) (PDE.n pd_int)) (pds_one (pd_retO (pdo_call (ok_q17 T) (hr.mono (by decide)) rfl T.g_q17 T.fn_q17.kp T.bd_q17 (pdv_v (pd_fdiv (pdr_of 0 (pv 0)) (PDE.r pd_int)) pdv_nil)))) pds_nil) (pds_cons (pd_if (PDW.t (pw_andD (pt_eq hr.h64 (pdn_of 1 (pv 1)) (PDE.n pd_int)) (pw_and1D (pt_eq hr.h64 (pdn_of 0 (pv 0)) (PDE.n pd_int))))) (pds_one (pd_retO (pdo_comp (N:=["_law_k"]) (own:=1) (ix:=[]) (is:=[0]) rfl (bs_mk (defScope s_q21) rfl (by decide +kernel)) (cp_mk N_q21 rfl (by decide +kernel)) (his_mk (by decide)) (pdi_range1 rfl T.b_range (PDE.r pd_int)) (fun _ _ _ _=>(pdg_name (i:=0) (show (["_law_k"]:List Str).Nodup from by decide +kernel) rfl (by first | exact Or.inl rfl | exact Or.inr rfl))) (fun _ _ _ _=>pifs0) (fun _ _ _ _=>(pd_tup (pdl_cons (pd_mod (pdr_of 0 (pv 0)) (PDE.r pd_int)) (pdl_cons (pd_mod (PDE.r (pd_addA (PDE.r (pd_addA (pdr_of 0 (pv 0)) (PDE.r pd_int))) (PDE.r (pd_fdiv (pdr_of 0 (pv 0)) (PDE.r pd_int))))) (PDE.r pd_int)) pdl_nil)))) (by decide +kernel)))) pds_nil) (pds_cons (pd_if (pt_eq hr.h64 (pdn_of 1 (pv 1)) (PDE.n pd_int)) (pds_one (pd_retO (pdo_call (ok_q13 T) (hr.mono (by decide)) rfl T.g_q13 T.fn_q13.kp T.bd_q13 (pdv_b 0 (pv 0) pdv_nil)))) pds_nil) (pds_one (pd_retO (pdo_lst pdl_nil))))))))
noncomputable abbrev N_q26:List Str:=["_law_script", "_law_most", "_law_false_here", "_law_number", "_law_size", "_law_family", "_law_kind", "_law_oneway", "_law_kinds_here", "_law_order_here", "_law_ties"]
theorem sc_q26:FnScope N_q26 ["_law_script", "_law_most", "_law_false_here"] (defScope s_q26):=⟨rfl,rfl,rfl,by decide +kernel,rfl,by decide +kernel,by decide +kernel⟩
noncomputable def g_q26 (C:Addr):DF→Option RES:=
    (dSeq (dSet 3 (callV (m_q24 C) (aV (callV (m_q11 C) (aB 0 (aV (fun _=>some (.int 0)) (fun _=>some [])))) (aV (fun _=>some (.int 1873046521)) (fun _=>some [])))))
    (dSeq (dSet 4 (d2 addA (fun _=>some (.int 1)) (d2 modD (getR 3) (getR 1))))
    (dSeq (dSet 5 (d2 modD (d2 fdivD (getR 3) (fun _=>some (.int 7))) (fun _=>some (.int 9))))
    (dSeq (dSet 6 (callV (m_q16 C) (aB 0 (aV (d2 powD (fun _=>some (.int 10)) (fun _=>some (.int 30))) (fun _=>some [])))))
    (dSeq (dSet 7 (d2 eqD (d2 modD (d2 fdivD (getR 3) (fun _=>some (.int 56))) (fun _=>some (.int 2))) (fun _=>some (.int 1))))
    (dSeq (dIf (asB (d2 eqD (d2 modD (getR 5) (fun _=>some (.int 8))) (fun _=>some (.int 0)))) (dRet (callV (m_q15 C) (aB 0 (aV (d2 fdivD (getR 3) (fun _=>some (.int 112))) (aV (getV 6) (aV (getV 7) (aB 2 (fun _=>some [])))))))) dNx)
    (dSeq (dSet 8 (callV (m_q18 C) (aB 0 (aB 4 (fun _=>some [])))))
    (dSeq (dIf (asB (d2 gtI (getR 5) (fun _=>some (.int 5)))) (dRet (asT (lcons (getV 8) (lcons (callV (m_q14 C) (aB 0 (aB 4 (fun _=>some [])))) lnil)))) dNx)
    (dSeq (dSet 9 (callV (m_q20 C) (aB 0 (aV (getV 4) (aV (fun _=>some (.int 742938285)) (fun _=>some []))))))
    (dSeq (dSet 10 (asO (asL (dComp 1 [9,6,7] (lstOf (callV (m_q21 C) (aB 4 (aB 5 (fun _=>some []))))) (setV 0) dYes (asT (lcons (d2 ixD (getR 1) (d2 ixD (getR 0) (fun _=>some (.int 0)))) (lcons (d2 ixD (getR 1) (d2 ixD (getR 0) (fun _=>some (.int 1)))) (lcons (getV 2) (lcons (getV 3) lnil)))))))))
    (dSeq (dIf (asB (d2 eqD (d2 modD (d2 fdivD (getR 3) (fun _=>some (.int 112))) (fun _=>some (.int 3))) (fun _=>some (.int 0)))) (dSet 10 (asO (asL (slL (d2 addA (getR 10) (callV (m_q14 C) (aB 0 (aB 4 (fun _=>some []))))) bNo (bI (fun _=>some (.int 12))))))) dNx)
    (dSeq (dIf (andT (asB (d2 eqD (d2 modD (d2 fdivD (getR 3) (fun _=>some (.int 112))) (fun _=>some (.int 3))) (fun _=>some (.int 1)))) (asB (d2 ltd (d1 lenD (getN 10)) (fun _=>some (.int 7))))) (dSet 10 (d2 addA (getR 10) (getR 10))) dNx)
    (dRet (asT (lcons (getV 8) (lcons (getV 10) lnil))))))))))))))))
noncomputable def m_q26 (C:Addr):List DV→Option DV:=mOf 11 3 (g_q26 C)
theorem ok_q26 {P:Program} {w:World} {K:PySem.W.Frag} {mg:Str→Option Value} {base:Heap} {t:Adr} (T:Txt K mg t):FnOk P w K mg base CX0 4 t.f_q26 t.d_q26 ["_law_script", "_law_most", "_law_false_here"] (spD K (m_q26 t.C)):=
  T.fn_q26.okD sc_q26 fun cdv A outer s H E hr=>(pds_cons (pd_set (i:=3) sc_q26.nd rfl (by first | exact Or.inl rfl | exact Or.inr rfl) (pd_call (ok_q24 T) (hr.mono (by decide)) rfl T.g_q24 T.fn_q24.kp T.bd_q24 (pdv_v (pd_call (ok_q11 T) (hr.mono (by decide)) rfl T.g_q11 T.fn_q11.kp T.bd_q11 (pdv_b 0 (pv 0) (pdv_v pd_int pdv_nil))) (pdv_v pd_int pdv_nil)))) (pds_cons (pd_set (i:=4) sc_q26.nd rfl (by first | exact Or.inl rfl | exact Or.inr rfl) (pd_addA (PDE.r pd_int) (PDE.r (pd_mod (pdr_of 3 (pv 3)) (pdr_of 1 (pv 1)))))) (pds_cons (pd_set (i:=5) sc_q26.nd rfl (by first | exact Or.inl rfl | exact Or.inr rfl) (pd_mod (PDE.r (pd_fdiv (pdr_of 3 (pv 3)) (PDE.r pd_int))) (PDE.r pd_int))) (pds_cons (pd_set (i:=6) sc_q26.nd rfl (by first | exact Or.inl rfl | exact Or.inr rfl) (pd_call (ok_q16 T) (hr.mono (by decide)) rfl T.g_q16 T.fn_q16.kp T.bd_q16 (pdv_b 0 (pv 0) (pdv_v (pd_pow (PDE.r pd_int) (PDE.r pd_int)) pdv_nil)))) (pds_cons (pd_set (i:=7) sc_q26.nd rfl (by first | exact Or.inl rfl | exact Or.inr rfl) (pd_eq hr.h64 (PDE.n (pd_mod (PDE.r (pd_fdiv (pdr_of 3 (pv 3)) (PDE.r pd_int))) (PDE.r pd_int))) (PDE.n pd_int))) (pds_cons (pd_if (pt_eq hr.h64 (PDE.n (pd_mod (pdr_of 5 (pv 5)) (PDE.r pd_int))) (PDE.n pd_int)) (pds_one (pd_ret (pd_call (ok_q15 T) (hr.mono (by decide)) rfl T.g_q15 T.fn_q15.kp T.bd_q15 (pdv_b 0 (pv 0) (pdv_v (pd_fdiv (pdr_of 3 (pv 3)) (PDE.r pd_int)) (pdv_v (pde_of 6 (pv 6)) (pdv_v (pde_of 7 (pv 7)) (pdv_b 2 (pv 2) pdv_nil)))))))) pds_nil) (pds_cons (pd_set (i:=8) sc_q26.nd rfl (by first | exact Or.inl rfl | exact Or.inr rfl) (pd_call (ok_q18 T) (hr.mono (by decide)) rfl T.g_q18 T.fn_q18.kp T.bd_q18 (pdv_b 0 (pv 0) (pdv_b 4 (pv 4) pdv_nil)))) (pds_cons (pd_if (pt_gt (pdr_of 5 (pv 5)) (PDE.r pd_int)) (pds_one (pd_ret (pd_tup (pdl_cons (pde_of 8 (pv 8)) (pdl_cons (pd_call (ok_q14 T) (hr.mono (by decide)) rfl T.g_q14 T.fn_q14.kp T.bd_q14 (pdv_b 0 (pv 0) (pdv_b 4 (pv 4) pdv_nil))) pdl_nil))))) pds_nil) (pds_cons (pd_set (i:=9) sc_q26.nd rfl (by first | exact Or.inl rfl | exact Or.inr rfl) (pd_call (ok_q20 T) (hr.mono (by decide)) rfl T.g_q20 T.fn_q20.kp T.bd_q20 (pdv_b 0 (pv 0) (pdv_v (pde_of 4 (pv 4)) (pdv_v pd_int pdv_nil))))) (pds_cons (pd_setComp (i:=10) (N:=["_law_pair", "_law_order_here", "_law_kind", "_law_oneway"]) (own:=1) (ix:=[9,6,7]) (is:=[0]) sc_q26.nd rfl (by first | exact Or.inl rfl | exact Or.inr rfl) rfl (bs_mk (defScope s_q26) rfl (by decide +kernel)) (cp_mk N_q26 rfl (by decide +kernel)) (his_mk (by decide)) (pdi_lst (pd_call (ok_q21 T) (hr.mono (by decide)) rfl T.g_q21 T.fn_q21.kp T.bd_q21 (pdv_b 4 (pv 4) (pdv_b 5 (pv 5) pdv_nil)))) (fun _ _ _ _=>(pdg_name (i:=0) (show (["_law_pair", "_law_order_here", "_law_kind", "_law_oneway"]:List Str).Nodup from by decide +kernel) rfl (by first | exact Or.inl rfl | exact Or.inr rfl))) (fun _ _ _ _=>pifs0) (fun _ _ _ _=>(pd_tup (pdl_cons (pd_ix (pdr_of 1 (pv 1)) (PDE.r (pd_ix (pdr_of 0 (pv 0)) (PDE.r pd_int)))) (pdl_cons (pd_ix (pdr_of 1 (pv 1)) (PDE.r (pd_ix (pdr_of 0 (pv 0)) (PDE.r pd_int)))) (pdl_cons (pde_of 2 (pv 2)) (pdl_cons (pde_of 3 (pv 3)) pdl_nil)))))) (by decide +kernel)) (pds_cons (pd_if (pt_eq hr.h64 (PDE.n (pd_mod (PDE.r (pd_fdiv (pdr_of 3 (pv 3)) (PDE.r pd_int))) (PDE.r pd_int))) (PDE.n pd_int)) (pds_one (pd_set (i:=10) sc_q26.nd rfl (by first | exact Or.inl rfl | exact Or.inr rfl) (PDO.v (pdo_slice (PDE.r (pd_addA (pdr_of 10 (pv 10)) (PDE.r (pd_call (ok_q14 T) (hr.mono (by decide)) rfl T.g_q14 T.fn_q14.kp T.bd_q14 (pdv_b 0 (pv 0) (pdv_b 4 (pv 4) pdv_nil)))))) pdb_no (pdb_i pd_int))))) pds_nil) (pds_cons (pd_if (PDW.t (pw_andD (pt_eq hr.h64 (PDE.n (pd_mod (PDE.r (pd_fdiv (pdr_of 3 (pv 3)) (PDE.r pd_int))) (PDE.r pd_int))) (PDE.n pd_int)) (pw_and1D (pt_ltd hr.h64 (PDE.n (pn_len rfl T.b_len (pdn_of 10 (pv 10)))) (PDE.n pd_int))))) (pds_one (pd_set (i:=10) sc_q26.nd rfl (by first | exact Or.inl rfl | exact Or.inr rfl) (pd_addA (pdr_of 10 (pv 10)) (pdr_of 10 (pv 10))))) pds_nil) (pds_one (pd_ret (pd_tup (pdl_cons (pde_of 8 (pv 8)) (pdl_cons (pde_of 10 (pv 10)) pdl_nil)))))))))))))))))
noncomputable abbrev N_q12:List Str:=["_law_ties", "_law_one", "_law_other", "_law_pairs_here", "_law_tie"]
theorem sc_q12:FnScope N_q12 ["_law_ties", "_law_one", "_law_other"] (defScope s_q12):=⟨rfl,rfl,rfl,by decide +kernel,rfl,by decide +kernel,by decide +kernel⟩
noncomputable def g_q12 (C:Addr):DF→Option RES:=
    (dSeq (dSetO 3 (asL lnil))
    (dSeq (dFor (borOf 0) (setV 4) (dSeq (dIf (asB (d2 eqD (asT (lcons (d2 ixD (getR 4) (fun _=>some (.int 0))) (lcons (d2 ixD (getR 4) (fun _=>some (.int 1))) lnil))) (asT (lcons (getV 1) (lcons (getV 2) lnil))))) (dApp 3 (asT (lcons (d2 ixD (getR 4) (fun _=>some (.int 2))) (lcons (d1 intD (d2 ixD (getR 4) (fun _=>some (.int 3)))) lnil)))) dNx)
    (dIf (asB (d2 eqD (asT (lcons (d2 ixD (getR 4) (fun _=>some (.int 1))) (lcons (d2 ixD (getR 4) (fun _=>some (.int 0))) lnil))) (asT (lcons (getV 1) (lcons (getV 2) lnil))))) (dApp 3 (asT (lcons (d2 ixD (getR 4) (fun _=>some (.int 2))) (lcons (d2 mulD (fun _=>some (.int 2)) (d1 intD (d2 ixD (getR 4) (fun _=>some (.int 3))))) lnil)))) dNx)))
    (dRet (d1 tupD (asO (asL (sortL (getR 3))))))))
noncomputable def m_q12 (C:Addr):List DV→Option DV:=mOf 5 3 (g_q12 C)
theorem ok_q12 {P:Program} {w:World} {K:PySem.W.Frag} {mg:Str→Option Value} {base:Heap} {t:Adr} (T:Txt K mg t):FnOk P w K mg base CX0 1 t.f_q12 t.d_q12 ["_law_ties", "_law_one", "_law_other"] (spD K (m_q12 t.C)):=
  T.fn_q12.okD sc_q12 fun cdv A outer s H E hr=>(pds_cons (pd_setO (i:=3) sc_q12.nd rfl (by first | exact Or.inl rfl | exact Or.inr rfl) (pdo_lst pdl_nil)) (pds_cons (pd_for PassesOwn.never rfl (pdi_bor 0 (pv 0)) (pdg_name (i:=4) sc_q12.nd rfl (by first | exact Or.inl rfl | exact Or.inr rfl)) (pds_cons (pd_if (pt_eq hr.h64 (PDE.n (pd_tup (pdl_cons (pd_ix (pdr_of 4 (pv 4)) (PDE.r pd_int)) (pdl_cons (pd_ix (pdr_of 4 (pv 4)) (PDE.r pd_int)) pdl_nil)))) (PDE.n (pd_tup (pdl_cons (pde_of 1 (pv 1)) (pdl_cons (pde_of 2 (pv 2)) pdl_nil))))) (pds_one (pd_append 3 (pv 3) (pd_tup (pdl_cons (pd_ix (pdr_of 4 (pv 4)) (PDE.r pd_int)) (pdl_cons (pd_intc rfl T.b_int (PDE.n (pd_ix (pdr_of 4 (pv 4)) (PDE.r pd_int)))) pdl_nil))))) pds_nil) (pds_one (pd_if (pt_eq hr.h64 (PDE.n (pd_tup (pdl_cons (pd_ix (pdr_of 4 (pv 4)) (PDE.r pd_int)) (pdl_cons (pd_ix (pdr_of 4 (pv 4)) (PDE.r pd_int)) pdl_nil)))) (PDE.n (pd_tup (pdl_cons (pde_of 1 (pv 1)) (pdl_cons (pde_of 2 (pv 2)) pdl_nil))))) (pds_one (pd_append 3 (pv 3) (pd_tup (pdl_cons (pd_ix (pdr_of 4 (pv 4)) (PDE.r pd_int)) (pdl_cons (pd_mul (PDE.r pd_int) (PDE.r (pd_intc rfl T.b_int (PDE.n (pd_ix (pdr_of 4 (pv 4)) (PDE.r pd_int)))))) pdl_nil))))) pds_nil)))) (pds_one (pd_ret (pd_tuple rfl T.b_tuple (PDE.r (PDO.v (pdo_sorted hr.h64 rfl T.b_sorted (pdr_of 3 (pv 3))))))))))
noncomputable abbrev N_q25:List Str:=["_law_ties", "_law_size", "_law_table_here", "_law_one", "_law_other"]
theorem sc_q25:FnScope N_q25 ["_law_ties", "_law_size"] (defScope s_q25):=⟨rfl,rfl,rfl,by decide +kernel,rfl,by decide +kernel,by decide +kernel⟩
noncomputable def g_q25 (C:Addr):DF→Option RES:=
    (dSeq (dSetO 2 (fun _=>some (.dT [])))
    (dSeq (dFor (rng1 (getR 1)) (setV 3) (dFor (rng1 (getR 1)) (setV 4) (dIf (asB (d2 neD (getN 3) (getN 4))) (dPutT 2 (asT (lcons (getV 3) (lcons (getV 4) lnil))) (callV (m_q12 C) (aB 0 (aV (getV 3) (aV (getV 4) (fun _=>some [])))))) dNx)))
    (dRetS 2)))
noncomputable def m_q25 (C:Addr):List DV→Option DV:=mOf 5 2 (g_q25 C)
theorem ok_q25 {P:Program} {w:World} {K:PySem.W.Frag} {mg:Str→Option Value} {base:Heap} {t:Adr} (T:Txt K mg t):FnOk P w K mg base CX0 2 t.f_q25 t.d_q25 ["_law_ties", "_law_size"] (spD K (m_q25 t.C)):=
  T.fn_q25.okD sc_q25 fun cdv A outer s H E hr=>(pds_cons (pd_setO (i:=2) sc_q25.nd rfl (by first | exact Or.inl rfl | exact Or.inr rfl) pdo_dnewT) (pds_cons (pd_for PassesOwn.never rfl (pdi_range1 rfl T.b_range (pdr_of 1 (pv 1))) (pdg_name (i:=3) sc_q25.nd rfl (by first | exact Or.inl rfl | exact Or.inr rfl)) (pds_one (pd_for PassesOwn.never rfl (pdi_range1 rfl T.b_range (pdr_of 1 (pv 1))) (pdg_name (i:=4) sc_q25.nd rfl (by first | exact Or.inl rfl | exact Or.inr rfl)) (pds_one (pd_if (pt_ne hr.h64 (pdn_of 3 (pv 3)) (pdn_of 4 (pv 4))) (pds_one (pd_dput 2 hr.h64 (pv 2) (pd_tup (pdl_cons (pde_of 3 (pv 3)) (pdl_cons (pde_of 4 (pv 4)) pdl_nil))) (pd_call (ok_q12 T) (hr.mono (by decide)) rfl T.g_q12 T.fn_q12.kp T.bd_q12 (pdv_b 0 (pv 0) (pdv_v (pde_of 3 (pv 3)) (pdv_v (pde_of 4 (pv 4)) pdv_nil)))))) pds_nil))))) (pds_one (pd_retS 2 (pv 2)))))
noncomputable abbrev N_q23:List Str:=["_law_keys", "_law_unlike", "_law_key"]
theorem sc_q23:FnScope N_q23 ["_law_keys"] (defScope s_q23):=⟨rfl,rfl,rfl,by decide +kernel,rfl,by decide +kernel,by decide +kernel⟩
noncomputable def g_q23 (C:Addr):DF→Option RES:=
    (dSeq (dSetO 1 (asL lnil))
    (dSeq (dFor (borOf 0) (setV 2) (dIf (asB (d2 notinD (getN 2) (getN 1))) (dApp 1 (getV 2)) dNx))
    (dFrz 1 (dRetO (asL (dComp 1 [1] (borOf 0) (setV 0) dYes (d1 lenD (asO (asL (dComp 1 [0] (lstOf (getV 1)) (setV 0) (asB (d2 ltd (getN 0) (getN 1))) (getV 0)))))))))))
noncomputable def m_q23 (C:Addr):List DV→Option DV:=mOf 3 1 (g_q23 C)
theorem ok_q23 {P:Program} {w:World} {K:PySem.W.Frag} {mg:Str→Option Value} {base:Heap} {t:Adr} (T:Txt K mg t):FnOk P w K mg base CX0 1 t.f_q23 t.d_q23 ["_law_keys"] (spD K (m_q23 t.C)):=
  T.fn_q23.okD sc_q23 fun cdv A outer s H E hr=>(pds_cons (pd_setO (i:=1) sc_q23.nd rfl (by first | exact Or.inl rfl | exact Or.inr rfl) (pdo_lst pdl_nil)) (pds_cons (pd_for PassesOwn.never rfl (pdi_bor 0 (pv 0)) (pdg_name (i:=2) sc_q23.nd rfl (by first | exact Or.inl rfl | exact Or.inr rfl)) (pds_one (pd_if (pt_notin hr.h64 (pdn_of 2 (pv 2)) (pdn_of 1 (pv 1))) (pds_one (pd_append 1 (pv 1) (pde_of 2 (pv 2)))) pds_nil))) (pds_one (pd1_frz 1 (pd_retO (pdo_comp (N:=["_law_key", "_law_unlike"]) (own:=1) (ix:=[1]) (is:=[0]) rfl (bs_mk (defScope s_q23) rfl (by decide +kernel)) (cp_mk N_q23 rfl (by decide +kernel)) (his_mk (by decide)) (pdi_bor 0 (pv 0)) (fun _ _ _ _=>(pdg_name (i:=0) (show (["_law_key", "_law_unlike"]:List Str).Nodup from by decide +kernel) rfl (by first | exact Or.inl rfl | exact Or.inr rfl))) (fun _ _ _ _=>pifs0) (fun _ _ _ _=>(pn_len rfl T.b_len (PDE.n (PDO.v (pdo_comp (N:=["_law_other", "_law_key"]) (own:=1) (ix:=[0]) (is:=[0]) rfl (bs_mk2 (by decide +kernel)) (cp_mk ["_law_key", "_law_unlike"] rfl (by decide +kernel)) (his_mk (by decide)) (pdi_lst (pde_of 1 (pv 1))) (fun _ _ _ _=>(pdg_name (i:=0) (show (["_law_other", "_law_key"]:List Str).Nodup from by decide +kernel) rfl (by first | exact Or.inl rfl | exact Or.inr rfl))) (fun _ _ _ _=>(pifs1 (pt_ltd hr.h64 (pdn_of 0 (pv 0)) (pdn_of 1 (pv 1))))) (fun _ _ _ _=>(pde_of 0 (pv 0))) (by decide +kernel)))))) (by decide +kernel)))))))
noncomputable abbrev N_q22:List Str:=["_law_script", "_law_size", "_law_number", "_law_many"]
theorem sc_q22:FnScope N_q22 ["_law_script", "_law_size"] (defScope s_q22):=⟨rfl,rfl,rfl,by decide +kernel,rfl,by decide +kernel,by decide +kernel⟩
noncomputable def g_q22 (C:Addr):DF→Option RES:=
    (dSeq (dSet 2 (callV (m_q24 C) (aV (callV (m_q11 C) (aB 0 (aV (fun _=>some (.int 14)) (fun _=>some [])))) (aV (fun _=>some (.int 941083987)) (fun _=>some [])))))
    (dSeq (dSet 3 (d2 addA (fun _=>some (.int 1)) (d2 modD (getR 2) (fun _=>some (.int 3)))))
    (dRet (callV (m_q23 C) (aV (asO (asL (dComp 1 [2,3] (rng1 (getR 1)) (setV 0) dYes (d2 modD (d2 fdivD (callV (m_q24 C) (aV (d2 addA (getR 1) (d2 mulD (getR 0) (getR 0))) (aV (fun _=>some (.int 1726512289)) (fun _=>some [])))) (fun _=>some (.int 5))) (getR 2))))) (fun _=>some []))))))
noncomputable def m_q22 (C:Addr):List DV→Option DV:=mOf 4 2 (g_q22 C)
theorem ok_q22 {P:Program} {w:World} {K:PySem.W.Frag} {mg:Str→Option Value} {base:Heap} {t:Adr} (T:Txt K mg t):FnOk P w K mg base CX0 2 t.f_q22 t.d_q22 ["_law_script", "_law_size"] (spD K (m_q22 t.C)):=
  T.fn_q22.okD sc_q22 fun cdv A outer s H E hr=>(pds_cons (pd_set (i:=2) sc_q22.nd rfl (by first | exact Or.inl rfl | exact Or.inr rfl) (pd_call (ok_q24 T) (hr.mono (by decide)) rfl T.g_q24 T.fn_q24.kp T.bd_q24 (pdv_v (pd_call (ok_q11 T) (hr.mono (by decide)) rfl T.g_q11 T.fn_q11.kp T.bd_q11 (pdv_b 0 (pv 0) (pdv_v pd_int pdv_nil))) (pdv_v pd_int pdv_nil)))) (pds_cons (pd_set (i:=3) sc_q22.nd rfl (by first | exact Or.inl rfl | exact Or.inr rfl) (pd_addA (PDE.r pd_int) (PDE.r (pd_mod (pdr_of 2 (pv 2)) (PDE.r pd_int))))) (pds_one (pd_ret (pd_call (ok_q23 T) (hr.mono (by decide)) rfl T.g_q23 T.fn_q23.kp T.bd_q23 (pdv_v (PDO.v (pdo_comp (N:=["_law_k", "_law_number", "_law_many"]) (own:=1) (ix:=[2,3]) (is:=[0]) rfl (bs_mk (defScope s_q22) rfl (by decide +kernel)) (cp_mk N_q22 rfl (by decide +kernel)) (his_mk (by decide)) (pdi_range1 rfl T.b_range (pdr_of 1 (pv 1))) (fun _ _ _ _=>(pdg_name (i:=0) (show (["_law_k", "_law_number", "_law_many"]:List Str).Nodup from by decide +kernel) rfl (by first | exact Or.inl rfl | exact Or.inr rfl))) (fun _ _ _ _=>pifs0) (fun _ _ _ _=>(pd_mod (PDE.r (pd_fdiv (PDE.r (pd_call (ok_q24 T) (hr.mono (by decide)) rfl T.g_q24 T.fn_q24.kp T.bd_q24 (pdv_v (pd_addA (pdr_of 1 (pv 1)) (PDE.r (pd_mul (pdr_of 0 (pv 0)) (pdr_of 0 (pv 0))))) (pdv_v pd_int pdv_nil)))) (PDE.r pd_int))) (pdr_of 2 (pv 2)))) (by decide +kernel))) pdv_nil))))))
noncomputable abbrev N_q4:List Str:=["kind", "letters_fit"]
theorem sc_q4:FnScope N_q4 ["kind"] (defScope s_q4):=⟨rfl,rfl,rfl,by decide +kernel,rfl,by decide +kernel,by decide +kernel⟩
noncomputable def g_q4 (C:Addr):DF→Option RES:=
    (dSeq (dSet 1 (d1 allD (asO (asL (dComp 1 [] (strOf (getV 0)) (setV 0) dYes (chD leA leA (fun _=>some (.str "a")) (getN 0) (fun _=>some (.str "z"))))))))
    (dRet (andV (getV 1) (chD leA leA (fun _=>some (.int 1)) (d1 lenD (getN 0)) (fun _=>some (.int 3))))))
noncomputable def m_q4 (C:Addr):List DV→Option DV:=mOf 2 1 (g_q4 C)
theorem ok_q4 {P:Program} {w:World} {K:PySem.W.Frag} {mg:Str→Option Value} {base:Heap} {t:Adr} (T:Txt K mg t):FnOk P w K mg base CX0 1 t.f_q4 t.d_q4 ["kind"] (spD K (m_q4 t.C)):=
  T.fn_q4.okD sc_q4 fun cdv A outer s H E hr=>(pds_cons (pd_set (i:=1) sc_q4.nd rfl (by first | exact Or.inl rfl | exact Or.inr rfl) (pd_all rfl rfl T.b_all (PDE.n (PDO.v (pdo_comp (N:=["letter"]) (own:=1) (ix:=[]) (is:=[0]) rfl (bs_mk (defScope s_q4) rfl (by decide +kernel)) (cp_mk N_q4 rfl (by decide +kernel)) (his_mk (by decide)) (pdi_str (pde_of 0 (pv 0))) (fun _ _ _ _=>(pdg_name (i:=0) (show (["letter"]:List Str).Nodup from by decide +kernel) rfl (by first | exact Or.inl rfl | exact Or.inr rfl))) (fun _ _ _ _=>pifs0) (fun _ _ _ _=>(pd_chLL (PDE.n pd_str) (pdn_of 0 (pv 0)) (PDE.n pd_str))) (by decide +kernel)))))) (pds_one (pd_ret (pd_and (pde_of 1 (pv 1)) (pd_one (pd_chLL (PDE.n pd_int) (PDE.n (pn_len rfl T.b_len (pdn_of 0 (pv 0)))) (PDE.n (pd_gint rfl T.c_MOST_LETTERS))))))))
noncomputable abbrev N_q6:List Str:=["kind"]
theorem sc_q6:FnScope N_q6 ["kind"] (defScope s_q6):=⟨rfl,rfl,rfl,by decide +kernel,rfl,by decide +kernel,by decide +kernel⟩
noncomputable def g_q6 (C:Addr):DF→Option RES:=
    (dRet (chD leA ltI (fun _=>some (.int 0)) (getN 0) (d2 powD (fun _=>some (.int 10)) (fun _=>some (.int 30)))))
noncomputable def m_q6 (C:Addr):List DV→Option DV:=mOf 1 1 (g_q6 C)
theorem ok_q6 {P:Program} {w:World} {K:PySem.W.Frag} {mg:Str→Option Value} {base:Heap} {t:Adr} (T:Txt K mg t):FnOk P w K mg base CX0 1 t.f_q6 t.d_q6 ["kind"] (spD K (m_q6 t.C)):=
  T.fn_q6.okD sc_q6 fun cdv A outer s H E hr=>(pds_one (pd_ret (pd_chLl (PDE.n pd_int) (pdn_of 0 (pv 0)) (PDE.n (pd_pow (PDE.r pd_int) (PDE.r pd_int))))))
noncomputable abbrev N_q5:List Str:=["tie", "size", "places_fit"]
theorem sc_q5:FnScope N_q5 ["tie", "size"] (defScope s_q5):=⟨rfl,rfl,rfl,by decide +kernel,rfl,by decide +kernel,by decide +kernel⟩
noncomputable def g_q5 (C:Addr):DF→Option RES:=
    (dSeq (dSet 2 (andV (chD leA ltI (fun _=>some (.int 0)) (d2 ixD (getR 0) (fun _=>some (.int 0))) (getN 1)) (chD leA ltI (fun _=>some (.int 0)) (d2 ixD (getR 0) (fun _=>some (.int 1))) (getN 1))))
    (dRet (andV (getV 2) (andV (d2 neD (d2 ixD (getR 0) (fun _=>some (.int 0))) (d2 ixD (getR 0) (fun _=>some (.int 1)))) (callV (m_q6 C) (aV (d2 ixD (getR 0) (fun _=>some (.int 2))) (fun _=>some [])))))))
noncomputable def m_q5 (C:Addr):List DV→Option DV:=mOf 3 2 (g_q5 C)
theorem ok_q5 {P:Program} {w:World} {K:PySem.W.Frag} {mg:Str→Option Value} {base:Heap} {t:Adr} (T:Txt K mg t):FnOk P w K mg base CX0 2 t.f_q5 t.d_q5 ["tie", "size"] (spD K (m_q5 t.C)):=
  T.fn_q5.okD sc_q5 fun cdv A outer s H E hr=>(pds_cons (pd_set (i:=2) sc_q5.nd rfl (by first | exact Or.inl rfl | exact Or.inr rfl) (pd_and (pd_chLl (PDE.n pd_int) (PDE.n (pd_ix (pdr_of 0 (pv 0)) (PDE.r pd_int))) (pdn_of 1 (pv 1))) (pd_one (pd_chLl (PDE.n pd_int) (PDE.n (pd_ix (pdr_of 0 (pv 0)) (PDE.r pd_int))) (pdn_of 1 (pv 1)))))) (pds_one (pd_ret (pd_and (pde_of 2 (pv 2)) (pd_and (pd_ne hr.h64 (PDE.n (pd_ix (pdr_of 0 (pv 0)) (PDE.r pd_int))) (PDE.n (pd_ix (pdr_of 0 (pv 0)) (PDE.r pd_int)))) (pd_one (pd_call (ok_q6 T) (hr.mono (by decide)) rfl T.g_q6 T.fn_q6.kp T.bd_q6 (pdv_v (pd_ix (pdr_of 0 (pv 0)) (PDE.r pd_int)) pdv_nil))))))))
noncomputable abbrev N_q31:List Str:=["kinds", "ties", "kind", "tie"]
theorem sc_q31:FnScope N_q31 ["kinds", "ties"] (defScope s_q31):=⟨rfl,rfl,rfl,by decide +kernel,rfl,by decide +kernel,by decide +kernel⟩
noncomputable def g_q31 (C:Addr):DF→Option RES:=
    (dSeq (dIf (notT (asB (chD leA leA (fun _=>some (.int 1)) (d1 lenD (getN 0)) (fun _=>some (.int 7))))) dNone dNx)
    (dSeq (dIf (asB (d2 gtI (d1 lenD (getN 1)) (fun _=>some (.int 12)))) dNone dNx)
    (dSeq (dFor (borOf 0) (setV 2) (dIf (notT (asB (callV (m_q4 C) (aV (getV 2) (fun _=>some []))))) dNone dNx))
    (dFor (borOf 1) (setV 3) (dIf (notT (asB (callV (m_q5 C) (aB 3 (aV (d1 lenD (getN 0)) (fun _=>some [])))))) dNone dNx)))))
noncomputable def m_q31 (C:Addr):List DV→Option DV:=mOf 4 2 (g_q31 C)
theorem ok_q31 {P:Program} {w:World} {K:PySem.W.Frag} {mg:Str→Option Value} {base:Heap} {t:Adr} (T:Txt K mg t):FnOk P w K mg base CX0 3 t.f_q31 t.d_q31 ["kinds", "ties"] (spD K (m_q31 t.C)):=
  T.fn_q31.okD sc_q31 fun cdv A outer s H E hr=>(pds_cons (pd_if (pt_notD (pt_chLL (PDE.n pd_int) (PDE.n (pn_len rfl T.b_len (pdn_of 0 (pv 0)))) (PDE.n (pd_gint rfl T.c_MOST_PLACES)))) (pds_one pd_never) pds_nil) (pds_cons (pd_if (pt_gt (PDE.r (pn_len rfl T.b_len (pdn_of 1 (pv 1)))) (PDE.r (pd_gint rfl T.c_MOST_TIES))) (pds_one pd_never) pds_nil) (pds_cons (pd_for PassesOwn.never rfl (pdi_bor 0 (pv 0)) (pdg_name (i:=2) sc_q31.nd rfl (by first | exact Or.inl rfl | exact Or.inr rfl)) (pds_one (pd_if (pt_notD (pt_valD (pd_call (ok_q4 T) (hr.mono (by decide)) rfl T.g_q4 T.fn_q4.kp T.bd_q4 (pdv_v (pde_of 2 (pv 2)) pdv_nil)))) (pds_one pd_never) pds_nil))) (pds_one (pd_for PassesOwn.never rfl (pdi_bor 1 (pv 1)) (pdg_name (i:=3) sc_q31.nd rfl (by first | exact Or.inl rfl | exact Or.inr rfl)) (pds_one (pd_if (pt_notD (pt_valD (pd_call (ok_q5 T) (hr.mono (by decide)) rfl T.g_q5 T.fn_q5.kp T.bd_q5 (pdv_b 3 (pv 3) (pdv_v (pn_len rfl T.b_len (pdn_of 0 (pv 0))) pdv_nil))))) (pds_one pd_never) pds_nil)))))))
noncomputable abbrev N_q28:List Str:=["tie"]
theorem sc_q28:FnScope N_q28 ["tie"] (defScope s_q28):=⟨rfl,rfl,rfl,by decide +kernel,rfl,by decide +kernel,by decide +kernel⟩
noncomputable def g_q28 (C:Addr):DF→Option RES:=
    (dSeq (dIf (orT (asB (d2 ixD (getR 0) (fun _=>some (.int 3)))) (asB (d2 ltd (d2 ixD (getR 0) (fun _=>some (.int 0))) (d2 ixD (getR 0) (fun _=>some (.int 1)))))) (dRet (getV 0)) dNx)
    (dRet (asT (lcons (d2 ixD (getR 0) (fun _=>some (.int 1))) (lcons (d2 ixD (getR 0) (fun _=>some (.int 0))) (lcons (d2 ixD (getR 0) (fun _=>some (.int 2))) (lcons (d2 ixD (getR 0) (fun _=>some (.int 3))) lnil)))))))
noncomputable def m_q28 (C:Addr):List DV→Option DV:=mOf 1 1 (g_q28 C)
theorem ok_q28 {P:Program} {w:World} {K:PySem.W.Frag} {mg:Str→Option Value} {base:Heap} {t:Adr} (T:Txt K mg t):FnOk P w K mg base CX0 1 t.f_q28 t.d_q28 ["tie"] (spD K (m_q28 t.C)):=
  T.fn_q28.okD sc_q28 fun cdv A outer s H E hr=>(pds_cons (pd_if (PDW.t (pw_orD (pt_valD (pd_ix (pdr_of 0 (pv 0)) (PDE.r pd_int))) (pw_or1D (pt_ltd hr.h64 (PDE.n (pd_ix (pdr_of 0 (pv 0)) (PDE.r pd_int))) (PDE.n (pd_ix (pdr_of 0 (pv 0)) (PDE.r pd_int))))))) (pds_one (pd_ret (pde_of 0 (pv 0)))) pds_nil) (pds_one (pd_ret (pd_tup (pdl_cons (pd_ix (pdr_of 0 (pv 0)) (PDE.r pd_int)) (pdl_cons (pd_ix (pdr_of 0 (pv 0)) (PDE.r pd_int)) (pdl_cons (pd_ix (pdr_of 0 (pv 0)) (PDE.r pd_int)) (pdl_cons (pd_ix (pdr_of 0 (pv 0)) (PDE.r pd_int)) pdl_nil))))))))
noncomputable abbrev N_q29:List Str:=["joins", "ends", "pair"]
theorem sc_q29:FnScope N_q29 ["joins", "ends", "pair"] (defScope s_q29):=⟨rfl,rfl,rfl,by decide +kernel,rfl,by decide +kernel,by decide +kernel⟩
noncomputable def g_q29 (C:Addr):DF→Option RES:=
    (dPutT 0 (getV 1) (d1 tupD (asO (asL (sortL (d2 addA (dctGet2 (getR 0) (getV 1) (asT lnil)) (asT (lcons (getV 2) lnil))))))))
noncomputable def mM_q29 (C:Addr):OD→List DV→Option (OD×D):=mMof 3 3 (g_q29 C)
theorem ok_q29 {P:Program} {w:World} {K:PySem.W.Frag} {mg:Str→Option Value} {base:Heap} {t:Adr} (T:Txt K mg t):FnOk P w K mg base CX0 1 t.f_q29 t.d_q29 ["joins", "ends", "pair"] (spM K (mM_q29 t.C)):=
  T.fn_q29.okM sc_q29 mMof_ok fun cdv A outer s H E hr=>(pds_one (pd_dput 0 hr.h64 (pv 0) (pde_of 1 (pv 1)) (pd_tuple rfl T.b_tuple (PDE.r (PDO.v (pdo_sorted hr.h64 rfl T.b_sorted (PDE.r (pd_addA (PDE.r (pd_dget2 hr.h64 (pdr_of 0 (pv 0)) (pde_of 1 (pv 1)) (pd_tup pdl_nil))) (PDE.r (pd_tup (pdl_cons (pde_of 2 (pv 2)) pdl_nil)))))))))))
noncomputable abbrev N_q7:List Str:=["ties", "joins", "one", "other", "kind", "oneway"]
theorem sc_q7:FnScope N_q7 ["ties"] (defScope s_q7):=⟨rfl,rfl,rfl,by decide +kernel,rfl,by decide +kernel,by decide +kernel⟩
noncomputable def g_q7 (C:Addr):DF→Option RES:=
    (dSeq (dSetO 1 (fun _=>some (.dT [])))
    (dSeq (dFor (borOf 0) (setT [2,3,4,5]) (dSeq (dMcall K0 1 (mM_q29 C) (aV (asT (lcons (getV 2) (lcons (getV 3) lnil))) (aV (asT (lcons (getV 4) (lcons (ifV (asB (getV 5)) (fun _=>some (.int 1)) (fun _=>some (.int 0))) lnil))) (fun _=>some []))))
    (dMcall K0 1 (mM_q29 C) (aV (asT (lcons (getV 3) (lcons (getV 2) lnil))) (aV (asT (lcons (getV 4) (lcons (ifV (asB (getV 5)) (fun _=>some (.int 2)) (fun _=>some (.int 0))) lnil))) (fun _=>some []))))))
    (dRetS 1)))
noncomputable def m_q7 (C:Addr):List DV→Option DV:=mOf 6 1 (g_q7 C)
theorem ok_q7 {P:Program} {w:World} {K:PySem.W.Frag} {mg:Str→Option Value} {base:Heap} {t:Adr} (T:Txt K mg t):FnOk P w K mg base CX0 2 t.f_q7 t.d_q7 ["ties"] (spD K (m_q7 t.C)):=
  T.fn_q7.okD sc_q7 fun cdv A outer s H E hr=>(pds_cons (pd_setO (i:=1) sc_q7.nd rfl (by first | exact Or.inl rfl | exact Or.inr rfl) pdo_dnewT) (pds_cons (pd_for PassesOwn.never rfl (pdi_bor 0 (pv 0)) (pdg_tup (is:=[2,3,4,5]) rfl (pgs_cons (pg_name (i:=2) sc_q7.nd rfl (by first | exact Or.inl rfl | exact Or.inr rfl)) (pgs_cons (pg_name (i:=3) sc_q7.nd rfl (by first | exact Or.inl rfl | exact Or.inr rfl)) (pgs_cons (pg_name (i:=4) sc_q7.nd rfl (by first | exact Or.inl rfl | exact Or.inr rfl)) (pgs_cons (pg_name (i:=5) sc_q7.nd rfl (by first | exact Or.inl rfl | exact Or.inr rfl)) pgs_nil))))) (pds_cons (pd_mcall 1 (ok_q29 T) (hr.mono (by decide)) rfl T.g_q29 T.fn_q29.kp T.bd_q29 (pv 1) (pdv_v (pd_tup (pdl_cons (pde_of 2 (pv 2)) (pdl_cons (pde_of 3 (pv 3)) pdl_nil))) (pdv_v (pd_tup (pdl_cons (pde_of 4 (pv 4)) (pdl_cons (pd_ifE (pt_valD (pde_of 5 (pv 5))) pd_int pd_int) pdl_nil))) pdv_nil))) (pds_one (pd_mcall 1 (ok_q29 T) (hr.mono (by decide)) rfl T.g_q29 T.fn_q29.kp T.bd_q29 (pv 1) (pdv_v (pd_tup (pdl_cons (pde_of 3 (pv 3)) (pdl_cons (pde_of 2 (pv 2)) pdl_nil))) (pdv_v (pd_tup (pdl_cons (pde_of 4 (pv 4)) (pdl_cons (pd_ifE (pt_valD (pde_of 5 (pv 5))) pd_int pd_int) pdl_nil))) pdv_nil)))))) (pds_one (pd_retS 1 (pv 1)))))
noncomputable abbrev N_q0:List Str:=["self", "kinds", "ties"]
theorem sc_q0:FnScope N_q0 ["self", "kinds", "ties"] (defScope s_q0):=⟨rfl,rfl,rfl,by decide +kernel,rfl,by decide +kernel,by decide +kernel⟩
noncomputable def g_q0 (C:Addr):DF→Option RES:=
    (dSeq (dDrop (callV (m_q31 C) (aB 1 (aB 2 (fun _=>some [])))))
    (dSeq (dSetF C 0 "kinds" (asO (asL (itemsL (getR 1)))))
    (dSeq (dSetF C 0 "ties" (asO (asL (sortL (asO (asL (dComp 1 [] (borOf 2) (setV 0) dYes (callV (m_q28 C) (aV (getV 0) (fun _=>some []))))))))))
    (dSetF C 0 "joins" (callV (m_q7 C) (aV (d1 (fldC C "ties") (getR 0)) (fun _=>some [])))))))
noncomputable def mM_q0 (C:Addr):OD→List DV→Option (OD×D):=mMof 3 3 (g_q0 C)
theorem ok_q0 {P:Program} {w:World} {K:PySem.W.Frag} {mg:Str→Option Value} {base:Heap} {t:Adr} (T:Txt K mg t):FnOk P w K mg base CX0 4 t.f_q0 t.d_q0 ["self", "kinds", "ties"] (spM K (mM_q0 t.C)):=
  T.fn_q0.okM sc_q0 mMof_ok fun cdv A outer s H E hr=>(pds_cons (pd_expr (pd_call (ok_q31 T) (hr.mono (by decide)) rfl T.g_q31 T.fn_q31.kp T.bd_q31 (pdv_b 1 (pv 1) (pdv_b 2 (pv 2) pdv_nil)))) (pds_cons (pd_setF 0 T.cl T.na_kinds (pv 0) (PDO.v (pdo_list rfl T.b_list (pdr_of 1 (pv 1))))) (pds_cons (pd_setF 0 T.cl T.na_ties (pv 0) (PDO.v (pdo_sorted hr.h64 rfl T.b_sorted (PDE.r (PDO.v (pdo_comp (N:=["tie"]) (own:=1) (ix:=[]) (is:=[0]) rfl (bs_mk (defScope s_q0) rfl (by decide +kernel)) (cp_mk N_q0 rfl (by decide +kernel)) (his_mk (by decide)) (pdi_bor 2 (pv 2)) (fun _ _ _ _=>(pdg_name (i:=0) (show (["tie"]:List Str).Nodup from by decide +kernel) rfl (by first | exact Or.inl rfl | exact Or.inr rfl))) (fun _ _ _ _=>pifs0) (fun _ _ _ _=>(pd_call (ok_q28 T) (hr.mono (by decide)) rfl T.g_q28 T.fn_q28.kp T.bd_q28 (pdv_v (pde_of 0 (pv 0)) pdv_nil))) (by decide +kernel))))))) (pds_one (pd_setF 0 T.cl T.na_joins (pv 0) (pd_call (ok_q7 T) (hr.mono (by decide)) rfl T.g_q7 T.fn_q7.kp T.bd_q7 (pdv_v (pd_fld T.cl T.na_ties (pdr_of 0 (pv 0))) pdv_nil)))))))
noncomputable abbrev N_q2:List Str:=["self"]
theorem sc_q2:FnScope N_q2 ["self"] (defScope s_q2):=⟨rfl,rfl,rfl,by decide +kernel,rfl,by decide +kernel,by decide +kernel⟩
noncomputable def g_q2 (C:Addr):DF→Option RES:=
    (dRet (d1 lenD (d1 (fldC C "kinds") (getR 0))))
noncomputable def m_q2 (C:Addr):List DV→Option DV:=mOf 1 1 (g_q2 C)
theorem ok_q2 {P:Program} {w:World} {K:PySem.W.Frag} {mg:Str→Option Value} {base:Heap} {t:Adr} (T:Txt K mg t):FnOk P w K mg base CX0 1 t.f_q2 t.d_q2 ["self"] (spD K (m_q2 t.C)):=
  T.fn_q2.okD sc_q2 fun cdv A outer s H E hr=>(pds_one (pd_ret (pn_len rfl T.b_len (PDE.n (pd_fld T.cl T.na_kinds (pdr_of 0 (pv 0)))))))
noncomputable abbrev N_q1:List Str:=["self", "one", "other"]
theorem sc_q1:FnScope N_q1 ["self", "one", "other"] (defScope s_q1):=⟨rfl,rfl,rfl,by decide +kernel,rfl,by decide +kernel,by decide +kernel⟩
noncomputable def g_q1 (C:Addr):DF→Option RES:=
    (dRet (dctGet2 (d1 (fldC C "joins") (getR 0)) (asT (lcons (getV 1) (lcons (getV 2) lnil))) (asT lnil)))
noncomputable def m_q1 (C:Addr):List DV→Option DV:=mOf 3 3 (g_q1 C)
theorem ok_q1 {P:Program} {w:World} {K:PySem.W.Frag} {mg:Str→Option Value} {base:Heap} {t:Adr} (T:Txt K mg t):FnOk P w K mg base CX0 1 t.f_q1 t.d_q1 ["self", "one", "other"] (spD K (m_q1 t.C)):=
  T.fn_q1.okD sc_q1 fun cdv A outer s H E hr=>(pds_one (pd_ret (pd_dget2 hr.h64 (PDE.r (pd_fld T.cl T.na_joins (pdr_of 0 (pv 0)))) (pd_tup (pdl_cons (pde_of 1 (pv 1)) (pdl_cons (pde_of 2 (pv 2)) pdl_nil))) (pd_tup pdl_nil))))
noncomputable abbrev N_q8:List Str:=["web", "parting", "place", "others", "pairs"]
theorem sc_q8:FnScope N_q8 ["web", "parting", "place"] (defScope s_q8):=⟨rfl,rfl,rfl,by decide +kernel,rfl,by decide +kernel,by decide +kernel⟩
noncomputable def g_q8 (C:Addr):DF→Option RES:=
    (dSeq (dSet 3 (asO (asL (dComp 1 [2] (rng1 (callMV C "size" (m_q2 C) (mArgs (selfB 0) g0))) (setV 0) (asB (d2 neD (getN 0) (getN 1))) (getV 0)))))
    (dSeq (dSet 4 (asO (asL (dComp 1 [1,0,2] (borOf 3) (setV 0) dYes (asT (lcons (d2 ixD (getR 1) (getR 0)) (lcons (callMV C "between" (m_q1 C) (mArgs (selfB 2) (aV (getV 3) (aV (getV 0) (fun _=>some []))))) lnil)))))))
    (dRet (asT (lcons (d2 ixD (getR 1) (getR 2)) (lcons (d1 tupD (asO (asL (sortL (getR 4))))) lnil))))))
noncomputable def m_q8 (C:Addr):List DV→Option DV:=mOf 5 3 (g_q8 C)
theorem ok_q8 {P:Program} {w:World} {K:PySem.W.Frag} {mg:Str→Option Value} {base:Heap} {t:Adr} (T:Txt K mg t):FnOk P w K mg base CX0 2 t.f_q8 t.d_q8 ["web", "parting", "place"] (spD K (m_q8 t.C)):=
  T.fn_q8.okD sc_q8 fun cdv A outer s H E hr=>(pds_cons (pd_setComp (i:=3) (N:=["other", "place"]) (own:=1) (ix:=[2]) (is:=[0]) sc_q8.nd rfl (by first | exact Or.inl rfl | exact Or.inr rfl) rfl (bs_mk (defScope s_q8) rfl (by decide +kernel)) (cp_mk N_q8 rfl (by decide +kernel)) (his_mk (by decide)) (pdi_range1 rfl T.b_range (PDE.r (pd_meth0 (pself_b 0 (pv 0)) T.cl T.mt_q2 (ok_q2 T) (hr.mono (by decide)) T.bd_q2))) (fun _ _ _ _=>(pdg_name (i:=0) (show (["other", "place"]:List Str).Nodup from by decide +kernel) rfl (by first | exact Or.inl rfl | exact Or.inr rfl))) (fun _ _ _ _=>(pifs1 (pt_ne hr.h64 (pdn_of 0 (pv 0)) (pdn_of 1 (pv 1))))) (fun _ _ _ _=>(pde_of 0 (pv 0))) (by decide +kernel)) (pds_cons (pd_setComp (i:=4) (N:=["other", "parting", "web", "place"]) (own:=1) (ix:=[1,0,2]) (is:=[0]) sc_q8.nd rfl (by first | exact Or.inl rfl | exact Or.inr rfl) rfl (bs_mk (defScope s_q8) rfl (by decide +kernel)) (cp_mk N_q8 rfl (by decide +kernel)) (his_mk (by decide)) (pdi_bor 3 (pv 3)) (fun _ _ _ _=>(pdg_name (i:=0) (show (["other", "parting", "web", "place"]:List Str).Nodup from by decide +kernel) rfl (by first | exact Or.inl rfl | exact Or.inr rfl))) (fun _ _ _ _=>pifs0) (fun _ _ _ _=>(pd_tup (pdl_cons (pd_ix (pdr_of 1 (pv 1)) (pdr_of 0 (pv 0))) (pdl_cons (pd_meth (pself_b 2 (pv 2)) T.cl T.mt_q1 (ok_q1 T) (hr.mono (by decide)) T.bd_q1 (pdv_v (pde_of 3 (pv 3)) (pdv_v (pde_of 0 (pv 0)) pdv_nil))) pdl_nil)))) (by decide +kernel)) (pds_one (pd_ret (pd_tup (pdl_cons (pd_ix (pdr_of 1 (pv 1)) (pdr_of 2 (pv 2))) (pdl_cons (pd_tuple rfl T.b_tuple (PDE.r (PDO.v (pdo_sorted hr.h64 rfl T.b_sorted (pdr_of 4 (pv 4)))))) pdl_nil)))))))
noncomputable abbrev N_q9:List Str:=["web", "parting"]
theorem sc_q9:FnScope N_q9 ["web", "parting"] (defScope s_q9):=⟨rfl,rfl,rfl,by decide +kernel,rfl,by decide +kernel,by decide +kernel⟩
noncomputable def g_q9 (C:Addr):DF→Option RES:=
    (dRetO (asL (dComp 1 [0,1] (rng1 (callMV C "size" (m_q2 C) (mArgs (selfB 0) g0))) (setV 0) dYes (callV (m_q8 C) (aB 1 (aB 2 (aV (getV 0) (fun _=>some []))))))))
noncomputable def m_q9 (C:Addr):List DV→Option DV:=mOf 2 2 (g_q9 C)
theorem ok_q9 {P:Program} {w:World} {K:PySem.W.Frag} {mg:Str→Option Value} {base:Heap} {t:Adr} (T:Txt K mg t):FnOk P w K mg base CX0 3 t.f_q9 t.d_q9 ["web", "parting"] (spD K (m_q9 t.C)):=
  T.fn_q9.okD sc_q9 fun cdv A outer s H E hr=>(pds_one (pd_retO (pdo_comp (N:=["place", "web", "parting"]) (own:=1) (ix:=[0,1]) (is:=[0]) rfl (bs_mk (defScope s_q9) rfl (by decide +kernel)) (cp_mk N_q9 rfl (by decide +kernel)) (his_mk (by decide)) (pdi_range1 rfl T.b_range (PDE.r (pd_meth0 (pself_b 0 (pv 0)) T.cl T.mt_q2 (ok_q2 T) (hr.mono (by decide)) T.bd_q2))) (fun _ _ _ _=>(pdg_name (i:=0) (show (["place", "web", "parting"]:List Str).Nodup from by decide +kernel) rfl (by first | exact Or.inl rfl | exact Or.inr rfl))) (fun _ _ _ _=>pifs0) (fun _ _ _ _=>(pd_call (ok_q8 T) (hr.mono (by decide)) rfl T.g_q8 T.fn_q8.kp T.bd_q8 (pdv_b 1 (pv 1) (pdv_b 2 (pv 2) (pdv_v (pde_of 0 (pv 0)) pdv_nil))))) (by decide +kernel))))
noncomputable abbrev N_q27:List Str:=["_law_found"]
theorem sc_q27:FnScope N_q27 ["_law_found"] (defScope s_q27):=⟨rfl,rfl,rfl,by decide +kernel,rfl,by decide +kernel,by decide +kernel⟩
noncomputable def g_q27 (C:Addr):DF→Option RES:=
    (dRet (andV (d1 (isTD "int") (getN 0)) (notV (d1 (isTD "bool") (getN 0)))))
noncomputable def m_q27 (C:Addr):List DV→Option DV:=mOf 1 1 (g_q27 C)
theorem ok_q27 {P:Program} {w:World} {K:PySem.W.Frag} {mg:Str→Option Value} {base:Heap} {t:Adr} (T:Txt K mg t):FnOk P w K mg base CX0 1 t.f_q27 t.d_q27 ["_law_found"] (spD K (m_q27 t.C)):=
  T.fn_q27.okD sc_q27 fun cdv A outer s H E hr=>(pds_one (pd_ret (pd_and (pd_isi rfl T.b_isinstance rfl T.b_int L2.boot_int (pdn_of 0 (pv 0))) (pd_one (pd_not (pd_isi rfl T.b_isinstance rfl T.b_bool L2.boot_bool (pdn_of 0 (pv 0))))))))
noncomputable abbrev N_q19:List Str:=["_law_found", "_law_due"]
theorem sc_q19:FnScope N_q19 ["_law_found", "_law_due"] (defScope s_q19):=⟨rfl,rfl,rfl,by decide +kernel,rfl,by decide +kernel,by decide +kernel⟩
noncomputable def g_q19 (C:Addr):DF→Option RES:=
    (dSeq (dIf (orT (notT (asB (d1 (isTD "list") (getN 0)))) (asB (d2 neD (d1 lenD (getN 0)) (d1 lenD (getN 1))))) (dRet (fun _=>some (.bl false))) dNx)
    (dRet (andV (d1 allD (asO (asL (dComp 1 [] (borOf 0) (setV 0) dYes (callV (m_q27 C) (aB 0 (fun _=>some []))))))) (d2 eqD (getN 0) (getN 1)))))
noncomputable def m_q19 (C:Addr):List DV→Option DV:=mOf 2 2 (g_q19 C)
theorem ok_q19 {P:Program} {w:World} {K:PySem.W.Frag} {mg:Str→Option Value} {base:Heap} {t:Adr} (T:Txt K mg t):FnOk P w K mg base CX0 2 t.f_q19 t.d_q19 ["_law_found", "_law_due"] (spD K (m_q19 t.C)):=
  T.fn_q19.okD sc_q19 fun cdv A outer s H E hr=>(pds_cons (pd_if (PDW.t (pw_orD (pt_notD (pt_valD (pd_isi rfl T.b_isinstance rfl T.b_list L2.boot_list (pdn_of 0 (pv 0))))) (pw_or1D (pt_ne hr.h64 (PDE.n (pn_len rfl T.b_len (pdn_of 0 (pv 0)))) (PDE.n (pn_len rfl T.b_len (pdn_of 1 (pv 1)))))))) (pds_one (pd_ret pd_bl)) pds_nil) (pds_one (pd_ret (pd_and (pd_all rfl rfl T.b_all (PDE.n (PDO.v (pdo_comp (N:=["_law_number"]) (own:=1) (ix:=[]) (is:=[0]) rfl (bs_mk (defScope s_q19) rfl (by decide +kernel)) (cp_mk N_q19 rfl (by decide +kernel)) (his_mk (by decide)) (pdi_bor 0 (pv 0)) (fun _ _ _ _=>(pdg_name (i:=0) (show (["_law_number"]:List Str).Nodup from by decide +kernel) rfl (by first | exact Or.inl rfl | exact Or.inr rfl))) (fun _ _ _ _=>pifs0) (fun _ _ _ _=>(pd_call (ok_q27 T) (hr.mono (by decide)) rfl T.g_q27 T.fn_q27.kp T.bd_q27 (pdv_b 0 (pv 0) pdv_nil))) (by decide +kernel))))) (pd_one (pd_eq hr.h64 (pdn_of 0 (pv 0)) (pdn_of 1 (pv 1))))))))
noncomputable abbrev N_q30:List Str:=["keys", "values"]
theorem sc_q30:FnScope N_q30 ["keys"] (defScope s_q30):=⟨rfl,rfl,rfl,by decide +kernel,rfl,by decide +kernel,by decide +kernel⟩
noncomputable def g_q30 (C:Addr):DF→Option RES:=
    (dSeq (dSet 1 (asO (asL (setSortL (getR 0)))))
    (dRetO (asL (dComp 1 [1] (borOf 0) (setV 0) dYes (d2 idxM (getN 1) (getN 0))))))
noncomputable def m_q30 (C:Addr):List DV→Option DV:=mOf 2 1 (g_q30 C)
theorem ok_q30 {P:Program} {w:World} {K:PySem.W.Frag} {mg:Str→Option Value} {base:Heap} {t:Adr} (T:Txt K mg t):FnOk P w K mg base CX0 1 t.f_q30 t.d_q30 ["keys"] (spD K (m_q30 t.C)):=
  T.fn_q30.okD sc_q30 fun cdv A outer s H E hr=>(pds_cons (pd_set (i:=1) sc_q30.nd rfl (by first | exact Or.inl rfl | exact Or.inr rfl) (PDO.v (pdo_setSort hr.h80 rfl rfl T.b_sorted rfl T.b_set (pdr_of 0 (pv 0))))) (pds_one (pd_retO (pdo_comp (N:=["key", "values"]) (own:=1) (ix:=[1]) (is:=[0]) rfl (bs_mk (defScope s_q30) rfl (by decide +kernel)) (cp_mk N_q30 rfl (by decide +kernel)) (his_mk (by decide)) (pdi_bor 0 (pv 0)) (fun _ _ _ _=>(pdg_name (i:=0) (show (["key", "values"]:List Str).Nodup from by decide +kernel) rfl (by first | exact Or.inl rfl | exact Or.inr rfl))) (fun _ _ _ _=>pifs0) (fun _ _ _ _=>(pd_index hr.h64 (pdn_of 1 (pv 1)) (pdn_of 0 (pv 0)))) (by decide +kernel)))))
noncomputable abbrev N_q3:List Str:=["web", "parting"]
theorem sc_q3:FnScope N_q3 ["web", "parting"] (defScope s_q3):=⟨rfl,rfl,rfl,by decide +kernel,rfl,by decide +kernel,by decide +kernel⟩
noncomputable def g_q3 (C:Addr):DF→Option RES:=
    (dRetO (callO (m_q30 C) (aV (callV (m_q9 C) (aB 0 (aB 1 (fun _=>some [])))) (fun _=>some []))))
noncomputable def m_q3 (C:Addr):List DV→Option DV:=mOf 2 2 (g_q3 C)
theorem ok_q3 {P:Program} {w:World} {K:PySem.W.Frag} {mg:Str→Option Value} {base:Heap} {t:Adr} (T:Txt K mg t):FnOk P w K mg base CX0 4 t.f_q3 t.d_q3 ["web", "parting"] (spD K (m_q3 t.C)):=
  T.fn_q3.okD sc_q3 fun cdv A outer s H E hr=>(pds_one (pd_retO (pdo_call (ok_q30 T) (hr.mono (by decide)) rfl T.g_q30 T.fn_q30.kp T.bd_q30 (pdv_v (pd_call (ok_q9 T) (hr.mono (by decide)) rfl T.g_q9 T.fn_q9.kp T.bd_q9 (pdv_b 0 (pv 0) (pdv_b 1 (pv 1) pdv_nil))) pdv_nil))))
noncomputable abbrev N_q10:List Str:=["_law_script", "_law_kinds_here", "_law_ties", "_law_size", "_law_table_here", "_law_parting_here", "_law_due", "_law_place", "_law_others", "_law_web_here", "_law_handed", "_law_found"]
theorem sc_q10:FnScope N_q10 ["_law_script"] (defScope s_q10):=⟨rfl,rfl,rfl,by decide +kernel,rfl,by decide +kernel,by decide +kernel⟩
noncomputable def g_q10 (C:Addr):DF→Option RES:=
    (dSeq (dSetT [1,2] (callV (m_q26 C) (aB 0 (aV (fun _=>some (.int 7)) (aV (fun _=>some (.int 7)) (fun _=>some []))))))
    (dSeq (dSet 3 (d1 lenD (getN 1)))
    (dSeq (dSet 4 (callV (m_q25 C) (aB 2 (aB 3 (fun _=>some [])))))
    (dSeq (dSet 5 (callV (m_q22 C) (aB 0 (aB 3 (fun _=>some [])))))
    (dSeq (dSetO 6 (asL lnil))
    (dSeq (dFor (rng1 (getR 3)) (setV 7) (dSeq (dSet 8 (asO (asL (dComp 1 [5,4,7] (rng1 (getR 3)) (setV 0) (asB (d2 neD (getN 0) (getN 3))) (asT (lcons (d2 ixD (getR 1) (getR 0)) (lcons (d2 dctGet (getR 2) (asT (lcons (getV 3) (lcons (getV 0) lnil)))) lnil)))))))
    (dApp 6 (asT (lcons (d2 ixD (getR 5) (getR 7)) (lcons (d1 tupD (asO (asL (sortL (getR 8))))) lnil))))))
    (dSeq (dSet 9 (asO (makeO C (mM_q0 C) (aB 1 (aB 2 (fun _=>some []))))))
    (dSeq (dSet 10 (asO (asL (itemsL (getR 5)))))
    (dSeq (dSet 11 (callV (m_q9 C) (aB 9 (aB 10 (fun _=>some [])))))
    (dSeq (dIf (orT (asB (d2 neD (getN 10) (getN 5))) (orT (notT (asB (d1 (isTD "list") (getN 11)))) (asB (d2 neD (getN 11) (getN 6))))) (dRet (fun _=>some (.bl false))) dNx)
    (dRet (andV (callV (m_q19 C) (aV (callV (m_q3 C) (aB 9 (aB 10 (fun _=>some [])))) (aV (callV (m_q23 C) (aB 6 (fun _=>some []))) (fun _=>some [])))) (d2 eqD (getN 10) (getN 5))))))))))))))
noncomputable def m_q10 (C:Addr):List DV→Option DV:=mOf 12 1 (g_q10 C)
theorem ok_q10 {P:Program} {w:World} {K:PySem.W.Frag} {mg:Str→Option Value} {base:Heap} {t:Adr} (T:Txt K mg t):FnOk P w K mg base CX0 6 t.f_q10 t.d_q10 ["_law_script"] (spD K (m_q10 t.C)):=
  T.fn_q10.okD sc_q10 fun cdv A outer s H E hr=>(pds_cons (pd_setT (pdg_tup (is:=[1,2]) rfl (pgs_cons (pg_name (i:=1) sc_q10.nd rfl (by first | exact Or.inl rfl | exact Or.inr rfl)) (pgs_cons (pg_name (i:=2) sc_q10.nd rfl (by first | exact Or.inl rfl | exact Or.inr rfl)) pgs_nil))) (pd_call (ok_q26 T) (hr.mono (by decide)) rfl T.g_q26 T.fn_q26.kp T.bd_q26 (pdv_b 0 (pv 0) (pdv_v pd_int (pdv_v pd_int pdv_nil))))) (pds_cons (pd_set (i:=3) sc_q10.nd rfl (by first | exact Or.inl rfl | exact Or.inr rfl) (pn_len rfl T.b_len (pdn_of 1 (pv 1)))) (pds_cons (pd_set (i:=4) sc_q10.nd rfl (by first | exact Or.inl rfl | exact Or.inr rfl) (pd_call (ok_q25 T) (hr.mono (by decide)) rfl T.g_q25 T.fn_q25.kp T.bd_q25 (pdv_b 2 (pv 2) (pdv_b 3 (pv 3) pdv_nil)))) (pds_cons (pd_set (i:=5) sc_q10.nd rfl (by first | exact Or.inl rfl | exact Or.inr rfl) (pd_call (ok_q22 T) (hr.mono (by decide)) rfl T.g_q22 T.fn_q22.kp T.bd_q22 (pdv_b 0 (pv 0) (pdv_b 3 (pv 3) pdv_nil)))) (pds_cons (pd_setO (i:=6) sc_q10.nd rfl (by first | exact Or.inl rfl | exact Or.inr rfl) (pdo_lst pdl_nil)) (pds_cons (pd_for PassesOwn.never rfl (pdi_range1 rfl T.b_range (pdr_of 3 (pv 3))) (pdg_name (i:=7) sc_q10.nd rfl (by first | exact Or.inl rfl | exact Or.inr rfl)) (pds_cons (pd_setComp (i:=8) (N:=["_law_other", "_law_parting_here", "_law_table_here", "_law_place"]) (own:=1) (ix:=[5,4,7]) (is:=[0]) sc_q10.nd rfl (by first | exact Or.inl rfl | exact Or.inr rfl) rfl (bs_mk (defScope s_q10) rfl (by decide +kernel)) (cp_mk N_q10 rfl (by decide +kernel)) (his_mk (by decide)) (pdi_range1 rfl T.b_range (pdr_of 3 (pv 3))) (fun _ _ _ _=>(pdg_name (i:=0) (show (["_law_other", "_law_parting_here", "_law_table_here", "_law_place"]:List Str).Nodup from by decide +kernel) rfl (by first | exact Or.inl rfl | exact Or.inr rfl))) (fun _ _ _ _=>(pifs1 (pt_ne hr.h64 (pdn_of 0 (pv 0)) (pdn_of 3 (pv 3))))) (fun _ _ _ _=>(pd_tup (pdl_cons (pd_ix (pdr_of 1 (pv 1)) (pdr_of 0 (pv 0))) (pdl_cons (pd_dget hr.h64 (pdr_of 2 (pv 2)) (pd_tup (pdl_cons (pde_of 3 (pv 3)) (pdl_cons (pde_of 0 (pv 0)) pdl_nil)))) pdl_nil)))) (by decide +kernel)) (pds_one (pd_append 6 (pv 6) (pd_tup (pdl_cons (pd_ix (pdr_of 5 (pv 5)) (pdr_of 7 (pv 7))) (pdl_cons (pd_tuple rfl T.b_tuple (PDE.r (PDO.v (pdo_sorted hr.h64 rfl T.b_sorted (pdr_of 8 (pv 8)))))) pdl_nil))))))) (pds_cons (pd_set (i:=9) sc_q10.nd rfl (by first | exact Or.inl rfl | exact Or.inr rfl) (PDO.v (pdo_make T.mkC (ok_q0 T) (hr.mono (by decide)) rfl T.mgC T.bd_q0 (pdv_b 1 (pv 1) (pdv_b 2 (pv 2) pdv_nil))))) (pds_cons (pd_set (i:=10) sc_q10.nd rfl (by first | exact Or.inl rfl | exact Or.inr rfl) (PDO.v (pdo_list rfl T.b_list (pdr_of 5 (pv 5))))) (pds_cons (pd_set (i:=11) sc_q10.nd rfl (by first | exact Or.inl rfl | exact Or.inr rfl) (pd_call (ok_q9 T) (hr.mono (by decide)) rfl T.g_q9 T.fn_q9.kp T.bd_q9 (pdv_b 9 (pv 9) (pdv_b 10 (pv 10) pdv_nil)))) (pds_cons (pd_if (PDW.t (pw_orD (pt_ne hr.h64 (pdn_of 10 (pv 10)) (pdn_of 5 (pv 5))) (pw_orD (pt_notD (pt_valD (pd_isi rfl T.b_isinstance rfl T.b_list L2.boot_list (pdn_of 11 (pv 11))))) (pw_or1D (pt_ne hr.h64 (pdn_of 11 (pv 11)) (pdn_of 6 (pv 6))))))) (pds_one (pd_ret pd_bl)) pds_nil) (pds_one (pd_ret (pd_and (pd_call (ok_q19 T) (hr.mono (by decide)) rfl T.g_q19 T.fn_q19.kp T.bd_q19 (pdv_v (pd_call (ok_q3 T) (hr.mono (by decide)) rfl T.g_q3 T.fn_q3.kp T.bd_q3 (pdv_b 9 (pv 9) (pdv_b 10 (pv 10) pdv_nil))) (pdv_v (pd_call (ok_q23 T) (hr.mono (by decide)) rfl T.g_q23 T.fn_q23.kp T.bd_q23 (pdv_b 6 (pv 6) pdv_nil)) pdv_nil))) (pd_one (pd_eq hr.h64 (pdn_of 10 (pv 10)) (pdn_of 5 (pv 5)))))))))))))))))
end
theorem forD_ix {st:D→DF→Option DF} {body:DF→Option RES} (I:Nat→DF→Prop):∀ (ds:List D) (k:Nat) (ρ:DF),I k ρ→
    (∀ j d ρ,ds[j]?=some d→I (k + j) ρ→∃ ρ1,st d ρ=some ρ1∧∃ ρ',body ρ1=some (.nx ρ')∧I (k + j + 1) ρ')→∃ ρ',forD st body ds ρ=some (.nx ρ')∧I (k + ds.length) ρ'
  | [],k,ρ,h,_=>⟨ρ,rfl,h⟩
  | d::ds,k,ρ,h,hs=>by
    obtain ⟨ρ1,e1,ρ',e2,h'⟩:=hs 0 d ρ rfl h
    obtain ⟨ρ2,e3,h3⟩:=forD_ix I ds (k + 1) ρ' h' fun j d' ρ0 hj hI=>by
      have:=hs (j + 1) d' ρ0 (by simpa using hj) (by rw [← Nat.add_assoc,Nat.add_right_comm]; exact hI)
      rwa [show k + (j + 1) + 1=k + 1 + j + 1 by lia] at this
    refine ⟨ρ2,?_,by rw [List.length_cons,show k + (ds.length + 1)=k + 1 + ds.length by lia]; exact h3⟩
    unfold forD
    rw [e1]
    simp only [e2]
    exact e3
theorem forD_inv {st:D→DF→Option DF} {body:DF→Option RES} (I:DF→Prop) {ds:List D} {ρ:DF} (h:I ρ)
    (hs:∀ d∈ds,∀ ρ,I ρ→∃ ρ1,st d ρ=some ρ1∧∃ ρ',body ρ1=some (.nx ρ')∧I ρ'):∃ ρ',forD st body ds ρ=some (.nx ρ')∧I ρ':=
  forD_ix (fun _=>I) ds 0 ρ h fun j d ρ hj hI=>hs d (List.mem_of_getElem? hj) ρ hI
theorem mapD_map {st:D→DF→Option DF} {c:DF→Option Bool} {e:DF→Option D} {ρ:DF} {α:Type} (f:α→D) (F:α→D):∀ xs:List α,(∀ x∈xs,∃ ρ1,st (f x) ρ=some ρ1∧c ρ1=some true∧e ρ1=some (F x))→mapD st c e ρ (xs.map f)=some (xs.map F)
  | [],_=>rfl
  | x::xs,h=>by
    obtain ⟨ρ1,h1,h2,h3⟩:=h x List.mem_cons_self
    rw [List.map_cons]
    unfold mapD
    rw [h1,Option.bind_some,h2,Option.bind_some,if_pos rfl,h3,Option.bind_some,mapD_map f F xs fun y hy=>h y (List.mem_cons_of_mem _ hy)]
    rfl
theorem mapD_good {st:D→DF→Option DF} {c:DF→Option Bool} {e:DF→Option D} {ρ:DF} {α:Type} (f:α→D) (G:α→Prop):∀ ds:List D,(∀ d∈ds,∃ ρ1,st d ρ=some ρ1∧c ρ1=some true∧∃ y,e ρ1=some (f y)∧G y)→∃ ys:List α,mapD st c e ρ ds=some (ys.map f)∧ys.length=ds.length∧∀ y∈ys,G y
  | [],_=>⟨[],rfl,rfl,fun _ h=>by cases h⟩
  | x::xs,h=>by
    obtain ⟨ρ1,h1,h2,y,h3,h4⟩:=h x List.mem_cons_self
    obtain ⟨ys,q1,q2,q3⟩:=mapD_good f G xs fun y hy=>h y (List.mem_cons_of_mem _ hy)
    refine ⟨y::ys,?_,by simp [q2],fun z hz=>?_⟩
    · unfold mapD
      rw [h1,Option.bind_some,h2,Option.bind_some,if_pos rfl,h3,Option.bind_some,q1]
      rfl
    · rcases List.mem_cons.mp hz with rfl | hz
      · exact h4
      · exact q3 z hz
theorem eqd_int (i j:Int):eqd (.int i) (.int j)=decide (i=j):=by
  have h:=eqd_iff (.int i) (.int j) rfl
  by_cases e:i=j
  · rw [decide_eq_true e,h,e]
  · rw [decide_eq_false e]
    cases q:eqd (.int i) (.int j) with
    | false=>rfl
    | true=>exact absurd (by simpa using h.mp q) e
theorem eqd_bl (i j:Bool):eqd (.bl i) (.bl j)=decide (i=j):=by
  have h:=eqd_iff (.bl i) (.bl j) rfl
  by_cases e:i=j
  · rw [decide_eq_true e,h,e]
  · rw [decide_eq_false e]
    cases q:eqd (.bl i) (.bl j) with
    | false=>rfl
    | true=>exact absurd (by simpa using h.mp q) e
@[simp] theorem eqD_int (i j:Int):eqD (.int i) (.int j)=some (.bl (decide (i=j))):=by
  unfold eqD
  rw [eqd_int]
  rfl
@[simp] theorem eqD_bl (i j:Bool):eqD (.bl i) (.bl j)=some (.bl (decide (i=j))):=by
  unfold eqD
  rw [eqd_bl]
  rfl
@[simp] theorem neD_int (i j:Int):neD (.int i) (.int j)=some (.bl (!decide (i=j))):=by
  unfold neD
  rw [eqd_int]
  rfl
@[simp] theorem ltd_int (i j:Int):ltd (.int i) (.int j)=some (.bl (decide (i < j))):=rfl
@[simp] theorem gtI_int (i j:Int):gtI (.int i) (.int j)=some (.bl (decide (j < i))):=rfl
@[simp] theorem leA_int (i j:Int):leA (.int i) (.int j)=some (.bl (decide (i≤j))):=rfl
@[simp] theorem ltI_int (i j:Int):ltI (.int i) (.int j)=some (.bl (decide (i < j))):=rfl
@[simp] theorem addA_int (i j:Int):addA (.int i) (.int j)=some (.int (i + j)):=rfl
@[simp] theorem subD_int (i j:Int):subD (.int i) (.int j)=some (.int (i - j)):=rfl
theorem mulD_int (i j:Int) (h:(-(2 ^ 64) < i∧i < 2 ^ 64)∨(-(2 ^ 64) < j∧j < 2 ^ 64)):mulD (.int i) (.int j)=some (.int (i * j)):=if_pos (decide_eq_true h)
theorem modD_int (i j:Int) (h:0 < j):modD (.int i) (.int j)=some (.int (i % j)):=if_pos (decide_eq_true h)
theorem fdivD_int (i j:Int) (h:0 < j∧j < 1073741824):fdivD (.int i) (.int j)=some (.int (i / j)):=if_pos (decide_eq_true h)
@[simp] theorem powD_30:powD (.int 10) (.int 30)=some (.int 1000000000000000000000000000000):=rfl
section
variable {f fa fb fc:DF→Option D} {fo:DF→Option OD} {fl:DF→Option (List D)} {fv:DF→Option (List DV)} {c c':DF→Option Bool} {g h:DF→Option RES} {ρ:DF} {i j:Nat} {m:List DV→Option DV}
@[simp] theorem dSeq_ap:dSeq g h ρ=match g ρ with | some (.nx ρ')=>h ρ' | r=>r:=rfl
@[simp] theorem dSet_ap:dSet i f ρ=(f ρ).map fun d=>.nx (ρ.set i (some (.v d))):=rfl
@[simp] theorem dSetO_ap:dSetO i fo ρ=(fo ρ).map fun o=>.nx (ρ.set i (some (.own o none))):=rfl
@[simp] theorem dRet_ap:dRet f ρ=(f ρ).map fun d=>.rt (.v d) ρ:=rfl
@[simp] theorem dRetO_ap:dRetO fo ρ=(fo ρ).map fun o=>.rt (.own o none) ρ:=rfl
@[simp] theorem dRetS_ap:dRetS i ρ=match ρ[i]? with | some (some x)=>some (.rt x ρ) | _=>none:=rfl
@[simp] theorem dIf_ap:dIf c g h ρ=(c ρ).bind fun b=>if b=true then g ρ else h ρ:=rfl
@[simp] theorem dNx_ap:dNx ρ=some (.nx ρ):=rfl
@[simp] theorem dDrop_ap:dDrop f ρ=(f ρ).map fun _=>.nx ρ:=rfl
@[simp] theorem d1_ap {F:D→Option D}:d1 F fa ρ=(fa ρ).bind F:=rfl
@[simp] theorem d2_ap {F:D→D→Option D}:d2 F fa fb ρ=(fa ρ).bind fun x=>(fb ρ).bind fun y=>F x y:=rfl
@[simp] theorem getV_ap:getV i ρ=match ρ[i]? with | some (some (.v d))=>some d | _=>none:=rfl
@[simp] theorem getR_ap:getR i ρ=match ρ[i]? with | some (some (.v d))=>some d | some (some (.own o _))=>if o.flat=true then some o.d else none | some (some (.bor o))=>if o.flat=true then some o.d else none | _=>none:=rfl
@[simp] theorem getN_ap:getN i ρ=match ρ[i]? with | some (some (.v d))=>some d | some (some (.own o _))=>some o.d | some (some (.bor o))=>some o.d | _=>none:=rfl
@[simp] theorem aB_ap:aB i fv ρ=match ρ[i]? with | some (some (.own o _))=>(fv ρ).map fun xs=>.bor o::xs | some (some (.bor o))=>(fv ρ).map fun xs=>.bor o::xs | some (some (.v d))=>(fv ρ).map fun xs=>.v d::xs | _=>none:=rfl
@[simp] theorem aV_ap:aV f fv ρ=(f ρ).bind fun d=>(fv ρ).map fun xs=>.v d::xs:=rfl
@[simp] theorem callV_ap:callV m fv ρ=(fv ρ).bind fun xs=>(m xs).bind dvD:=rfl
@[simp] theorem callO_ap:callO m fv ρ=(fv ρ).bind fun xs=>(m xs).bind dvO:=rfl
@[simp] theorem asB_ap:asB f ρ=match f ρ with | some (.bl b)=>some b | _=>none:=rfl
@[simp] theorem asL_ap:asL fl ρ=(fl ρ).map .lst:=rfl
@[simp] theorem asO_ap:asO fo ρ=(fo ρ).map OD.d:=rfl
@[simp] theorem asT_ap:asT fl ρ=(fl ρ).map .tup:=rfl
@[simp] theorem lcons_ap:lcons f fl ρ=(f ρ).bind fun d=>(fl ρ).map fun r=>d::r:=rfl
@[simp] theorem lnil_ap:lnil ρ=some []:=rfl
@[simp] theorem notT_ap:notT c ρ=(c ρ).map fun b=>!b:=rfl
@[simp] theorem dYes_ap:dYes ρ=some true:=rfl
@[simp] theorem setV_ap {d:D}:setV i d ρ=some (ρ.set i (some (.v d))):=rfl
@[simp] theorem ifV_ap:ifV c f fa ρ=(c ρ).bind fun b=>if b=true then f ρ else fa ρ:=rfl
@[simp] theorem itemsL_ap:itemsL f ρ=(f ρ).bind itemsD:=rfl
theorem sortL_ap:sortL f ρ=(f ρ).bind fun d=>(itemsD d).bind fun ds=>if sortOk ds=true then some (sortD ds) else none:=rfl
theorem dFor_ap {it:DF→Option (List D)} {st:D→DF→Option DF}:dFor it st g ρ=(it ρ).bind fun ds=>forD st g ds ρ:=rfl
@[simp] theorem dFrz_ap:dFrz i g ρ=match ρ[i]? with | some (some (.own o none))=>g (ρ.set i (some (.v o.d))) | some (some (.v d))=>g ρ | _=>none:=rfl
theorem dComp_ap {own:Nat} {ix:List Nat} {it:DF→Option (List D)} {st:D→DF→Option DF} {e:DF→Option D}:dComp own ix it st c e ρ=(it ρ).bind fun ds=>if ds.length≤16777216 then mapD st c e (capD own ix ρ) ds else none:=rfl
@[simp] theorem andT_ap:andT c c' ρ=(c ρ).bind fun b=>if b=true then c' ρ else some false:=rfl
@[simp] theorem orT_ap:orT c c' ρ=(c ρ).bind fun b=>if b=true then some true else c' ρ:=rfl
@[simp] theorem andV_ap:andV f fa ρ=match f ρ with | some (.bl true)=>fa ρ | some (.bl false)=>some (.bl false) | _=>none:=rfl
@[simp] theorem chD_ap {F G:D→D→Option D}:chD F G fa fb fc ρ=(fa ρ).bind fun x=>(fb ρ).bind fun y=>match F x y with | some (.bl true)=>(fc ρ).bind fun z=>G y z | some (.bl false)=>some (.bl false) | _=>none:=rfl
@[simp] theorem lstOf_ap:lstOf f ρ=match f ρ with | some (.lst ds)=>some ds | _=>none:=rfl
@[simp] theorem borOf_ap:borOf i ρ=match ρ[i]? with | some (some (.bor (.lst ds)))=>some ds | some (some (.v (.lst ds)))=>some ds | _=>none:=rfl
theorem rng1_ap:rng1 f ρ=match f ρ with | some (.int j)=>if -(2 ^ 62)≤j∧j < 2 ^ 62 then some (rangeL 0 j.toNat) else none | _=>none:=rfl
theorem slL_ap {b b':DF→Option (Option Int)}:slL f b b' ρ=match f ρ with | some (.lst xs)=>(b ρ).bind fun l=>(b' ρ).map fun h=>cutL xs l h | _=>none:=rfl
@[simp] theorem dApp_ap:dApp i f ρ=match ρ[i]? with | some (some (.own (.lst ds) t))=>(f ρ).bind fun d=>if ds.length < 16777216 then some (.nx (ρ.set i (some (.own (.lst (ds++[d])) t)))) else none | _=>none:=rfl
@[simp] theorem dSetT_ap {is:List Nat}:dSetT is f ρ=(f ρ).bind fun d=>(setT is d ρ).map .nx:=rfl
@[simp] theorem bI_ap:bI f ρ=match f ρ with | some (.int i)=>some (some i) | _=>none:=rfl
@[simp] theorem bNo_ap:bNo ρ=some none:=rfl
end
@[simp] theorem odd1 {ds:List D}:(OD.lst ds).d=.lst ds:=rfl
@[simp] theorem odd2 {ds:List (List Key×D)}:(OD.dT ds).d=.dT ds:=rfl
@[simp] theorem odd3 {ds:List (Key×D)}:(OD.dK ds).d=.dK ds:=rfl
@[simp] theorem odd4 {C:Addr} {ds:List (Str×D)}:(OD.ins C ds).d=.ins C ds:=rfl
@[simp] theorem odf1 {ds:List D}:(OD.lst ds).flat=true:=rfl
@[simp] theorem odf2 {ds:List (List Key×D)}:(OD.dT ds).flat=true:=rfl
@[simp] theorem odf3 {ds:List (Key×D)}:(OD.dK ds).flat=true:=rfl
@[simp] theorem odf4 {C:Addr} {ds:List (Str×D)}:(OD.ins C ds).flat=true:=rfl
@[simp] theorem dvD1 {d:D}:dvD (.v d)=some d:=rfl
@[simp] theorem dvD2 {o:OD} {t:Option Addr}:dvD (.own o t)=some o.d:=rfl
@[simp] theorem dvO2 {o:OD} {t:Option Addr}:dvO (.own o t)=some o:=rfl
@[simp] theorem ret1 {x:DV} {ρ:DF}:retOf (some (.rt x ρ))=some x:=rfl
@[simp] theorem ret2 {ρ:DF}:retOf (some (.nx ρ))=some (.v .non):=rfl
@[simp] theorem cap1 {d:D}:capV (some (.v d))=some (.v d):=rfl
@[simp] theorem cap2 {o:OD} {t:Option Addr}:capV (some (.own o t))=some (.bor o):=rfl
@[simp] theorem cap3 {o:OD}:capV (some (.bor o))=some (.bor o):=rfl
@[simp] theorem capD_ap {own:Nat} {ix:List Nat} {ρ:DF}:capD own ix ρ=List.replicate own none++ix.map fun j=>capV (ρ[j]?).join:=rfl
@[simp] theorem items1 {ds:List D}:itemsD (.lst ds)=some ds:=rfl
@[simp] theorem items2 {ds:List D}:itemsD (.tup ds)=some ds:=rfl
@[simp] theorem len1 {ds:List D}:lenD (.lst ds)=some (.int ds.length):=rfl
@[simp] theorem len2 {ds:List D}:lenD (.tup ds)=some (.int ds.length):=rfl
theorem ix1 {ds:List D} {i:Int}:ixD (.lst ds) (.int i)=atI ds i:=rfl
theorem ix2 {ds:List D} {i:Int}:ixD (.tup ds) (.int i)=atI ds i:=rfl
@[simp] theorem mOf_ap {n p:Nat} {g:DF→Option RES} {xs:List DV}:mOf n p g xs=if xs.length=p then retOf (g (startD n p xs)) else none:=rfl
@[simp] theorem startD_ap {n p:Nat} {xs:List DV}:startD n p xs=xs.map some++List.replicate (n - p) none:=rfl
theorem dis7_1 {x:Int} (h:1≤x∧x < 8):x=1∨x=2∨x=3∨x=4∨x=5∨x=6∨x=7:=by
  obtain ⟨m,hm⟩:=Int.eq_ofNat_of_zero_le (show 0≤x - 1 by lia)
  have key:∀ m:Fin 7,((m:Nat):Int) + 1=1∨((m:Nat):Int) + 1=2∨((m:Nat):Int) + 1=3∨((m:Nat):Int) + 1=4∨((m:Nat):Int) + 1=5∨((m:Nat):Int) + 1=6∨((m:Nat):Int) + 1=7:=by decide
  have:=key ⟨m,by lia⟩
  rwa [show ((m:Nat):Int) + 1=x by lia] at this
noncomputable def okW (x:Str):Prop:=1≤x.cps.size∧x.cps.size≤3∧∀ c∈x.cps.toList,97≤c∧c≤122
theorem map_erase {α β:Type} (f:α→β):∀ (l:List α) (k:Nat),(l.map f).eraseIdx k=(l.eraseIdx k).map f
  | [],_=>rfl
  | _::_,0=>rfl
  | x::l,k + 1=>by rw [List.map_cons,List.eraseIdx_cons_succ,List.eraseIdx_cons_succ,List.map_cons,map_erase f l k]
theorem popIx_in {n:Nat} {k:Int} (h0:0≤k) (h1:k < n) (hn:n < 1000):popIx n (.int k)=some k.toNat:=by
  show (if -(2 ^ 63)≤k∧k < 2 ^ 63 then seqIndex? k n else none)=_
  rw [if_pos (by lia)]
  unfold seqIndex?
  simp only
  have e:¬ k < 0:=by lia
  simp [e,h0,h1]
theorem get_erase_perm {α:Type}:∀ (l:List α) (k:Nat) (h:k < l.length),(l[k]::l.eraseIdx k).Perm l
  | x::l,0,_=>.refl _
  | x::l,k + 1,h=>by
    have:=get_erase_perm l k (by simpa using h)
    rw [List.getElem_cons_succ,List.eraseIdx_cons_succ]
    exact (List.Perm.swap _ _ _).trans (this.cons x)
noncomputable def rngI (n:Int):List Int:=(List.range n.toNat).map fun i:Nat=>(i:Int)
theorem rngI_len (n:Int):(rngI n).length=n.toNat:=by simp [rngI]
theorem mem_rngI {n i:Int}:i∈rngI n↔0≤i∧i < n:=by
  unfold rngI
  rw [List.mem_map]
  constructor
  · rintro ⟨k,hk,rfl⟩
    have:=List.mem_range.mp hk
    lia
  · rintro ⟨h0,h1⟩
    exact ⟨i.toNat,List.mem_range.mpr (by lia),by lia⟩
theorem rngI_nodup (n:Int):(rngI n).Nodup:=by
  unfold rngI
  rw [List.Nodup,List.pairwise_map]
  exact (List.nodup_range (n:=n.toNat)).imp fun h e=>h (by lia)
theorem rangeL_eq (n:Int):rangeL 0 n.toNat=(rngI n).map D.int:=by
  unfold rangeL rngI
  simp
noncomputable def dP (p:Int×Int):D:=.tup [.int p.1,.int p.2]
noncomputable def okP (n:Int) (p:Int×Int):Prop:=0≤p.1∧p.1 < n∧0≤p.2∧p.2 < n∧p.1≠p.2
theorem mOf_1 {n:Nat} {g:DF→Option RES} {a:DV}:mOf n 1 g [a]=retOf (g (startD n 1 [a])):=rfl
theorem mOf_2 {n:Nat} {g:DF→Option RES} {a b:DV}:mOf n 2 g [a,b]=retOf (g (startD n 2 [a,b])):=rfl
theorem mOf_3 {n:Nat} {g:DF→Option RES} {a b c:DV}:mOf n 3 g [a,b,c]=retOf (g (startD n 3 [a,b,c])):=rfl
theorem rngI_at {n:Int} {j:Nat} {d:D} (h:((rngI n).map D.int)[j]?=some d):d=.int (j:Int):=by
  unfold rngI at h
  rw [List.getElem?_map,List.getElem?_map] at h
  cases q:(List.range n.toNat)[j]? with
  | none=>rw [q] at h; cases h
  | some k=>
    rw [q] at h
    obtain ⟨h1,h2⟩:=List.getElem?_eq_some_iff.mp q
    rw [List.getElem_range] at h2
    subst h2
    cases h
    rfl
noncomputable abbrev T4:=Int×Int×Int×Bool
noncomputable def dT4 (t:T4):D:=.tup [.int t.1,.int t.2.1,.int t.2.2.1,.bl t.2.2.2]
noncomputable def okT (n:Int) (t:T4):Prop:=0≤t.1∧t.1 < n∧0≤t.2.1∧t.2.1 < n∧t.1≠t.2.1∧0≤t.2.2.1∧t.2.2.1 < 1000000000000000000000000000000
theorem atI_in {α:Type} {l:List α} {i:Int} (h0:0≤i) (h1:i < l.length):atI l i=l[i.toNat]?:=by
  unfold atI ixN
  rw [if_pos h0,if_pos h1]
  rfl
theorem atI_map {α β:Type} {l:List α} (f:α→β) {i:Int} (h0:0≤i) (h1:i < l.length):∃ x,l[i.toNat]?=some x∧atI (l.map f) i=some (f x):=by
  have h:i.toNat < l.length:=by lia
  refine ⟨l[i.toNat],List.getElem?_eq_getElem h,?_⟩
  rw [atI_in h0 (by rw [List.length_map]; exact h1),List.getElem?_map,List.getElem?_eq_getElem h]
  rfl
theorem perm_in {n:Int} {out:List Int} (hn:1≤n) (p:out.Perm (rngI n)):(out.length:Int)=n∧out.Nodup∧∀ x∈out,0≤x∧x < n:=
  ⟨by rw [p.length_eq,rngI_len]; lia,p.nodup_iff.mpr (rngI_nodup n),fun x hx=>mem_rngI.mp (p.mem_iff.mp hx)⟩
theorem at_ne {out:List Int} (h:out.Nodup) {i j:Nat} {x y:Int} (hi:out[i]?=some x) (hj:out[j]?=some y) (hij:i≠j):x≠y:=by
  intro e
  subst e
  obtain ⟨h1,h1'⟩:=List.getElem?_eq_some_iff.mp hi
  obtain ⟨h2,h2'⟩:=List.getElem?_eq_some_iff.mp hj
  exact hij ((List.getElem_inj h).mp (h1'.trans h2'.symm))
theorem rng1_of {f:DF→Option D} {ρ:DF} {n:Int} (h:f ρ=some (.int n)) (hn:0≤n∧n≤1000):rng1 f ρ=some ((rngI n).map .int):=by
  have hb:-(2 ^ 62)≤n∧n < 2 ^ 62:=by lia
  rw [rng1_ap,h]
  simp only
  rw [if_pos hb,rangeL_eq]
theorem dSeq_nx {g h:DF→Option RES} {ρ ρ':DF} (e:g ρ=some (.nx ρ')):dSeq g h ρ=h ρ':=by rw [dSeq_ap,e]
theorem dSeq_rt {g h:DF→Option RES} {ρ ρ':DF} {x:DV} (e:g ρ=some (.rt x ρ')):dSeq g h ρ=some (.rt x ρ'):=by rw [dSeq_ap,e]
noncomputable def lf (t:T4):T4:=if t.2.2.2=true∨t.1 < t.2.1 then t else (t.2.1,t.1,t.2.2.1,t.2.2.2)
theorem lf_ok {n:Int} {t:T4} (h:okT n t):okT n (lf t):=by
  unfold lf
  split
  · exact h
  · obtain ⟨a,b,c,d,e,f⟩:=h
    exact ⟨c,d,a,b,fun q=>e q.symm,f⟩
theorem sortOk_T4 (ts:List T4) (h:ts.length < 64):sortOk (ts.map dT4)=true:=by
  unfold sortOk
  simp only [Bool.and_eq_true,decide_eq_true_eq,List.all_eq_true,List.length_map]
  refine ⟨⟨⟨⟨h,?_⟩,?_⟩,?_⟩,?_⟩
  · intro x hx; obtain ⟨t,_,rfl⟩:=List.mem_map.mp hx; rfl
  · intro x hx y hy; obtain ⟨t,_,rfl⟩:=List.mem_map.mp hx; obtain ⟨u,_,rfl⟩:=List.mem_map.mp hy; rfl
  · intro x hx; obtain ⟨t,_,rfl⟩:=List.mem_map.mp hx; rfl
  · intro x hx; obtain ⟨t,_,rfl⟩:=List.mem_map.mp hx; rfl
theorem perm_map_inv {α:Type} (f:α→D) (g:D→α) (hg:∀ a,g (f a)=a) {l:List D} {ts:List α} (h:l.Perm (ts.map f)):∃ us:List α,l=us.map f∧us.Perm ts:=by
  refine ⟨l.map g,?_,?_⟩
  · rw [List.map_map]
    conv=>lhs; rw [← List.map_id l]
    refine List.map_congr_left fun x hx=>?_
    obtain ⟨t,_,rfl⟩:=List.mem_map.mp (h.mem_iff.mp hx)
    show _=f (g (f t))
    rw [hg]
    rfl
  · have:=h.map g
    rw [List.map_map,show g ∘ f=id from funext hg,List.map_id] at this
    exact this
noncomputable def unT4:D→T4
  | .tup [.int a,.int b,.int k,.bl o]=>(a,b,k,o)
  | _=>(0,0,0,false)
theorem sort_T4 (ts:List T4):∃ us:List T4,sortD (ts.map dT4)=us.map dT4∧us.Perm ts:=perm_map_inv dT4 unT4 (fun _=>rfl) (sortD_perm _)
theorem valD_put {κ:Type} [DecidableEq κ] (k k':κ) (v:D):∀ kvs:List (κ×D),valD (putD kvs k v) k'=if k=k' then some v else valD kvs k':=by
  intro kvs
  unfold putD
  split
  · rename_i h
    induction kvs with
    | nil=>simp at h
    | cons x r ih=>
      obtain ⟨q,w⟩:=x
      rw [List.map_cons]
      by_cases e:q=k
      · subst e
        by_cases e2:q=k'
        · simp [valD_cons,e2]
        · have hr:∀ r:List (κ×D),valD (r.map fun kv=>if kv.1=q then (kv.1,v) else kv) k'=valD r k':=by
            intro r
            induction r with
            | nil=>rfl
            | cons y r ih=>
              obtain ⟨a,b⟩:=y
              rw [List.map_cons]
              by_cases e3:a=q
              · subst e3; simp [valD_cons,e2,ih]
              · simp [valD_cons,e3,ih]
          simp [valD_cons,e2,hr]
      · have h':(r.any fun kv=>decide (kv.1=k))=true:=by simpa [e] using h
        have:=ih h'
        by_cases e2:q=k'
        · subst e2
          simp [valD_cons,e,show ¬ k=q from fun z=>e z.symm]
        · simp only [e,if_false,valD_cons,e2]
          exact this
  · rename_i h
    induction kvs with
    | nil=>simp [valD_cons,valD]
    | cons x r ih=>
      obtain ⟨q,w⟩:=x
      have hq:¬ q=k:=by intro z; exact h (by simp [z])
      have hr:¬ (r.any fun kv=>decide (kv.1=k))=true:=fun z=>h (by simp only [List.any_cons,z,Bool.or_true])
      have:=ih hr
      rw [List.cons_append,valD_cons,valD_cons,this]
      by_cases e:k=k'
      · subst e
        simp [hq]
      · simp [e]
theorem putD_len {κ:Type} [DecidableEq κ] (k:κ) (v:D) (kvs:List (κ×D)):(putD kvs k v).length≤kvs.length + 1:=by
  unfold putD
  split
  · simp
  · simp
theorem cutL_map {α β:Type} (f:α→β) (l:List α) (a b:Option Int):cutL (l.map f) a b=(cutL l a b).map f:=by
  unfold cutL
  rw [List.length_map,List.map_take,List.map_drop]
noncomputable def okK (n:Int) (ks:List Str):Prop:=(ks.length:Int)=n∧∀ k∈ks,okW k
noncomputable def okS (n:Int) (ts:List T4):Prop:=ts.length≤12∧∀ t∈ts,okT n t
theorem mapD_filter {c:DF→Option Bool} {ρ:DF} (q:Int→Bool):∀ xs:List Int,(∀ x∈xs,c (ρ.set 0 (some (.v (.int x))))=some (q x))→0 < ρ.length→mapD (setV 0) c (getV 0) ρ (xs.map .int)=some ((xs.filter q).map .int)
  | [],_,_=>rfl
  | x::xs,h,hl=>by
    have ih:=mapD_filter q xs (fun y hy=>h y (List.mem_cons_of_mem _ hy)) hl
    have hx:=h x List.mem_cons_self
    rw [List.map_cons]
    unfold mapD
    rw [setV_ap,Option.bind_some,hx,Option.bind_some,List.filter_cons]
    cases q x with
    | false=>rw [if_neg (by decide),if_neg (by decide),ih]
    | true=>
      have hg:getV 0 (ρ.set 0 (some (.v (.int x))))=some (.int x):=by
        unfold getV
        rw [List.getElem?_set_self hl]
      rw [if_pos rfl,if_pos rfl,hg,Option.bind_some,ih]
      rfl
theorem cutL_to {α:Type} (l:List α) {k:Int} (h:0≤k):cutL l none (some k)=l.take k.toNat:=by
  unfold cutL HT.sIx
  simp only [List.drop_zero,Nat.sub_zero]
  rw [if_neg (by lia),← List.take_take,List.take_length]
theorem addA_lst (xs ys:List D) (h:xs.length + ys.length≤16777216):addA (.lst xs) (.lst ys)=some (.lst (xs++ys)):=if_pos h
theorem dFor_nx {it:DF→Option (List D)} {st:D→DF→Option DF} {g:DF→Option RES} {ρ:DF} {ds:List D} {r:RES} (h:it ρ=some ds) (e:forD st g ds ρ=some r):dFor it st g ρ=some r:=by
  rw [dFor_ap,h]
  exact e
theorem place_ok (C:Addr) (x:Str) (h:okW x):m_q4 C [.v (.str x)]=some (.v (.bl true)):=by
  obtain ⟨h1,h3,hc⟩:=h
  have e1:mapD (setV 0) dYes (chD leA leA (fun _=>some (.str "a")) (getN 0) (fun _=>some (.str "z"))) [none] (L2.signs x)=some (x.cps.toList.map fun _=>D.bl true):=by
    unfold L2.signs
    refine mapD_map (fun c=>D.str ⟨#[c]⟩) (fun _=>D.bl true) _ fun c hm=>?_
    obtain ⟨c1,c2⟩:=hc c hm
    refine ⟨[some (.v (.str ⟨#[c]⟩))],rfl,rfl,?_⟩
    have l1:leA (.str "a") (.str ⟨#[c]⟩)=some (.bl true):=by
      show some (D.bl (!decide ([c] < [97])))=_
      have:¬ ([c] < [97]):=fun h=>by rcases List.cons_lt_cons_iff.mp h with h | ⟨_,h⟩; lia; exact absurd h (List.not_lt_nil _)
      rw [decide_eq_false this]; rfl
    have l2:leA (.str ⟨#[c]⟩) (.str "z")=some (.bl true):=by
      show some (D.bl (!decide ([122] < [c])))=_
      have:¬ ([122] < [c]):=fun h=>by rcases List.cons_lt_cons_iff.mp h with h | ⟨_,h⟩; lia; exact absurd h (List.not_lt_nil _)
      rw [decide_eq_false this]; rfl
    simp [l1,l2]
  have hsz:(L2.signs x).length≤16777216:=by unfold L2.signs; rw [List.length_map,Array.length_toList]; lia
  have e2:allD (.lst (x.cps.toList.map fun _=>D.bl true))=some (.bl true):=by
    have a1:((x.cps.toList.map fun _=>D.bl true).all isBl)=true:=by simp [isBl]
    have a2:((x.cps.toList.map fun _=>D.bl true).all trD)=true:=by simp [trD]
    show (if ((x.cps.toList.map fun _=>D.bl true).all isBl)=true then some (D.bl ((x.cps.toList.map fun _=>D.bl true).all trD)) else none)=_
    rw [if_pos a1,a2]
  have e3:lenD (.str x)=some (.int (x.cps.size:Int)):=if_pos (show x.cps.size≤16777216 by lia)
  have d1':dComp 1 [] (strOf (getV 0)) (setV 0) dYes (chD leA leA (fun _=>some (.str "a")) (getN 0) (fun _=>some (.str "z"))) [some (.v (.str x)),none]=some (x.cps.toList.map fun _=>D.bl true):=by
    have:strOf (getV 0) [some (.v (.str x)),none]=some (L2.signs x):=rfl
    rw [dComp_ap,this,Option.bind_some,if_pos hsz]
    exact e1
  unfold m_q4 g_q4
  have g1:(1:Int)≤(x.cps.size:Int):=by lia
  have g2:(x.cps.size:Int)≤3:=by lia
  generalize (chD leA leA (fun _=>some (.str "a")) (getN 0) (fun _=>some (.str "z")))=E' at d1' ⊢
  generalize (x.cps.toList.map fun _=>D.bl true)=L at *
  simp [d1',e2,e3,g1,g2]
theorem tie_ok (C:Addr) (t:T4) (n:Int) (h:okT n t):m_q5 C [.v (dT4 t),.v (.int n)]=some (.v (.bl true)):=by
  obtain ⟨a,b,k,o⟩:=t
  obtain ⟨a0,a1,b0,b1,ab,k0,k1⟩:=h
  simp only at a0 a1 b0 b1 ab k0 k1
  have ea:atI [D.int a,.int b,.int k,.bl o] 0=some (.int a):=rfl
  have eb:atI [D.int a,.int b,.int k,.bl o] 1=some (.int b):=rfl
  have ek:atI [D.int a,.int b,.int k,.bl o] 2=some (.int k):=rfl
  have hk:m_q6 C [.v (.int k)]=some (.v (.bl true)):=by
    simp [m_q6,g_q6,k0,k1]
  unfold m_q5 g_q5
  generalize m_q6 C=M at hk ⊢
  simp [dT4,ix2,ea,eb,ek,a0,a1,b0,b1,ab,hk]
theorem refuse_ok (C:Addr) (ks:List Str) (ts:List T4) (n:Int) (hn:1≤n∧n≤7) (hk:okK n ks) (hs:okS n ts):m_q31 C [.v (.lst (ks.map .str)),.v (.lst (ts.map dT4))]=some (.v .non):=by
  have hP:=place_ok C
  have hT:∀ t,okT n t→m_q5 C [.v (dT4 t),.v (.int n)]=some (.v (.bl true)):=fun t h=>tie_ok C t n h
  unfold m_q31 g_q31
  generalize m_q4 C=P at hP ⊢
  generalize m_q5 C=T at hT ⊢
  have hkl:(ks.length:Int)=n:=hk.1
  have g1:1≤n:=hn.1
  have g2:n≤7:=hn.2
  have g3:¬ (12:Int) < (ts.length:Int):=by have:=hs.1; lia
  have q1:∀ G,(dSeq (dIf (notT (asB (chD leA leA (fun _=>some (.int 1)) (d1 lenD (getN 0)) (fun _=>some (.int 7))))) dNone dNx) (dSeq (dIf (asB (d2 gtI (d1 lenD (getN 1)) (fun _=>some (.int 12)))) dNone dNx) G)) (startD 4 2 [.v (.lst (ks.map .str)),.v (.lst (ts.map dT4))])=G [some (.v (.lst (ks.map .str))),some (.v (.lst (ts.map dT4))),none,none]:=by
    intro G
    simp [hkl,g1,g2,g3]
  obtain ⟨z1,e1,y2,rfl⟩:=forD_inv (st:=setV 2) (body:=(dIf (notT (asB (callV P (aV (getV 2) (fun _=>some []))))) dNone dNx)) (fun ρ=>∃ x2,ρ=[some (.v (.lst (ks.map .str))),some (.v (.lst (ts.map dT4))),x2,none]) (ds:=ks.map .str) (ρ:=[some (.v (.lst (ks.map .str))),some (.v (.lst (ts.map dT4))),none,none]) ⟨_,rfl⟩ (by
    rintro d hd _ ⟨x2,rfl⟩
    obtain ⟨k,hk',rfl⟩:=List.mem_map.mp hd
    have:=hP k (hk.2 k hk')
    refine ⟨[some (.v (.lst (ks.map .str))),some (.v (.lst (ts.map dT4))),some (.v (.str k)),none],rfl,[some (.v (.lst (ks.map .str))),some (.v (.lst (ts.map dT4))),some (.v (.str k)),none],?_,_,rfl⟩
    simp [this])
  obtain ⟨z2,e2,y3,rfl⟩:=forD_inv (st:=setV 3) (body:=(dIf (notT (asB (callV T (aB 3 (aV (d1 lenD (getN 0)) (fun _=>some [])))))) dNone dNx)) (fun ρ=>∃ x3,ρ=[some (.v (.lst (ks.map .str))),some (.v (.lst (ts.map dT4))),y2,x3]) (ds:=ts.map dT4) (ρ:=[some (.v (.lst (ks.map .str))),some (.v (.lst (ts.map dT4))),y2,none]) ⟨_,rfl⟩ (by
    rintro d hd _ ⟨x2,rfl⟩
    obtain ⟨k,hk',rfl⟩:=List.mem_map.mp hd
    have:=hT k (hs.2 k hk')
    refine ⟨[some (.v (.lst (ks.map .str))),some (.v (.lst (ts.map dT4))),y2,some (.v (dT4 k))],rfl,[some (.v (.lst (ks.map .str))),some (.v (.lst (ts.map dT4))),y2,some (.v (dT4 k))],?_,_,rfl⟩
    simp [hkl,this])
  rw [mOf_2,q1,dSeq_nx (dFor_nx (ds:=ks.map D.str) rfl e1),dFor_nx (ds:=ts.map dT4) rfl e2]
  rfl
theorem lesser_ok (C:Addr) (t:T4):m_q28 C [.v (dT4 t)]=some (.v (dT4 (lf t))):=by
  obtain ⟨a,b,k,o⟩:=t
  have ea:atI [D.int a,.int b,.int k,.bl o] 0=some (.int a):=rfl
  have eb:atI [D.int a,.int b,.int k,.bl o] 1=some (.int b):=rfl
  have ek:atI [D.int a,.int b,.int k,.bl o] 2=some (.int k):=rfl
  have eo:atI [D.int a,.int b,.int k,.bl o] 3=some (.bl o):=rfl
  unfold m_q28 g_q28
  cases o with
  | true=>simp [dT4,ix2,ea,eb,ek,eo,lf]
  | false=>
    by_cases h:a < b
    · simp [dT4,ix2,ea,eb,ek,eo,lf,h]
    · simp [dT4,ix2,ea,eb,ek,eo,lf,h]
theorem sortOk_P (ts:List (Int×Int)) (h:ts.length < 64):sortOk (ts.map dP)=true:=by
  unfold sortOk
  simp only [Bool.and_eq_true,decide_eq_true_eq,List.all_eq_true,List.length_map]
  refine ⟨⟨⟨⟨h,?_⟩,?_⟩,?_⟩,?_⟩
  · intro x hx; obtain ⟨t,_,rfl⟩:=List.mem_map.mp hx; rfl
  · intro x hx y hy; obtain ⟨t,_,rfl⟩:=List.mem_map.mp hx; obtain ⟨u,_,rfl⟩:=List.mem_map.mp hy; rfl
  · intro x hx; obtain ⟨t,_,rfl⟩:=List.mem_map.mp hx; rfl
  · intro x hx; obtain ⟨t,_,rfl⟩:=List.mem_map.mp hx; rfl
noncomputable def unP:D→Int×Int
  | .tup [.int a,.int b]=>(a,b)
  | _=>(0,0)
theorem dPutT_ap {j:Nat} {fk fv:DF→Option D} {ρ:DF}:dPutT j fk fv ρ=match ρ[j]? with
  | some (some (.own (.dT kvs) t))=>(fv ρ).bind fun v=>(fk ρ).bind fun y=>(keyT y).bind fun k=>if kvs.length < 16777216 then some (.nx (ρ.set j (some (.own (.dT (putD kvs k v)) t)))) else none
  | _=>none:=rfl
theorem dctGet2_ap {fd fk fx:DF→Option D} {ρ:DF}:dctGet2 fd fk fx ρ=match fd ρ with
  | some (.dT kvs)=>(fk ρ).bind fun y=>(keyT y).bind fun k=>(fx ρ).map fun x=>(valD kvs k).getD x
  | _=>none:=rfl
noncomputable def wFs (ks:List Str) (T J:D):List (Str×D):=[("kinds",.lst (ks.map .str)),("ties",T),("joins",J)]
theorem n1:¬ (("kinds":Str) = "ties"):=by decide +kernel
theorem n2:¬ (("kinds":Str) = "joins"):=by decide +kernel
theorem n3:¬ (("ties":Str) = "joins"):=by decide +kernel
theorem b1:(("ties":Str) == "kinds")=false:=by decide +kernel
theorem b2:(("size":Str) == "kinds")=false:=by decide +kernel
theorem b3:(("size":Str) == "ties")=false:=by decide +kernel
theorem b4:(("size":Str) == "joins")=false:=by decide +kernel
theorem fldC_in {C:Addr} {fs:List (Str×D)} {n:Str}:fldC C n (.ins C fs)=fs.lookup n:=if_pos rfl
theorem fld_kinds (C:Addr) (ks:List Str) (T J:D):fldC C "kinds" (.ins C (wFs ks T J))=some (.lst (ks.map .str)):=by
  rw [fldC_in]
  unfold wFs
  simp
theorem lk_size (ks:List Str) (T J:D):(wFs ks T J).lookup ("size":Str)=none:=by
  unfold wFs
  simp [List.lookup,b2,b3,b4]
theorem dSetF_ap {C:Addr} {i:Nat} {n:Str} {fv:DF→Option D} {ρ:DF}:dSetF C i n fv ρ=match ρ[i]? with
  | some (some (.own (.ins C' fs) t))=>if C'=C then (fv ρ).bind fun d=>if fs.length < 1000 then some (.nx (ρ.set i (some (.own (.ins C (putFD n d fs)) t)))) else none else none
  | _=>none:=rfl
noncomputable def srt (ts:List T4):List D:=sortD ((ts.map lf).map dT4)
theorem okN_I (r:List Int):okN 30 (.lst (r.map .int))=true:=by
  show (r.map D.int).all (okN 29)=true
  rw [List.all_eq_true]
  intro x hx
  obtain ⟨t,_,rfl⟩:=List.mem_map.mp hx
  rfl
theorem cmpOks_map {α:Type} (f:α→D) (h:∀ x y,cmpOk (f x) (f y)=true):∀ a b:List α,cmpOks (a.map f) (b.map f)=true
  | [],_=>rfl
  | _::_,[]=>rfl
  | x::a,y::b=>by
    rw [List.map_cons,List.map_cons]
    show (cmpOk (f x) (f y)&&cmpOks (a.map f) (b.map f))=true
    rw [cmpOks_map f h a b,h]
    rfl
theorem eqd_refl {α:Type} (f:α→D) (h:∀ x y,cmpOk (f x) (f y)=true) (a:List α):eqd (.lst (a.map f)) (.lst (a.map f))=true:=(eqds_iff _ _ (cmpOks_map f h a a)).mpr rfl
theorem eqD_of {x y:D} (hx:okN 30 x=true) (hy:okN 30 y=true):eqD x y=some (.bl (eqd x y)):=if_pos (by rw [hx,hy]; rfl)
theorem neD_of {x y:D} (hx:okN 30 x=true) (hy:okN 30 y=true):neD x y=some (.bl (!eqd x y)):=if_pos (by rw [hx,hy]; rfl)
theorem cmps_P (ps:List (Int×Int)):Cmps 28 (ps.map dP):=
  ⟨fun x hx=>by obtain ⟨t,_,rfl⟩:=List.mem_map.mp hx; rfl,fun x hx y hy=>by obtain ⟨t,_,rfl⟩:=List.mem_map.mp hx; obtain ⟨u,_,rfl⟩:=List.mem_map.mp hy; rfl⟩
noncomputable def prs (i j:Int) (t:T4):List (Int×Int):=(if t.1=i∧t.2.1=j then [(t.2.2.1,if t.2.2.2=true then 1 else 0)] else [])++(if t.2.1=i∧t.1=j then [(t.2.2.1,if t.2.2.2=true then 2 else 0)] else [])
noncomputable def allP (i j:Int):List T4→List (Int×Int)
  | []=>[]
  | t::ts=>prs i j t++allP i j ts
noncomputable def srP (ps:List (Int×Int)):D:=.tup (sortD (ps.map dP))
theorem srP_perm {ps qs:List (Int×Int)} (h:ps.Perm qs):srP ps=srP qs:=by
  unfold srP
  rw [sortD_same (h.map dP) (cmps_P _)]
theorem allP_app (i j:Int) (ts us:List T4):allP i j (ts++us)=allP i j ts++allP i j us:=by
  induction ts with
  | nil=>rfl
  | cons t ts ih=>
    show prs i j t++allP i j (ts++us)=prs i j t++allP i j ts++allP i j us
    rw [ih,List.append_assoc]
theorem allP_one (i j:Int) (ts:List T4) (t:T4):allP i j (ts++[t])=allP i j ts++prs i j t:=by
  rw [allP_app]
  show _++(prs i j t++[])=_
  rw [List.append_nil]
theorem allP_perm {i j:Int} {ts us:List T4} (h:ts.Perm us):(allP i j ts).Perm (allP i j us):=by
  induction h with
  | nil=>exact .refl _
  | cons t _ ih=>exact ih.append_left _
  | swap a b l=>
    show (prs i j b++(prs i j a++allP i j l)).Perm (prs i j a++(prs i j b++allP i j l))
    rw [← List.append_assoc,← List.append_assoc]
    exact List.perm_append_comm.append_right _
  | trans _ _ h1 h2=>exact h1.trans h2
theorem prs_lf (i j:Int) (t:T4) (h:t.1≠t.2.1):prs i j (lf t)=prs i j t:=by
  obtain ⟨a,b,k,o⟩:=t
  simp only at h
  unfold lf
  split
  · rfl
  · rename_i q
    have ho:o=false:=by cases o with | false=>rfl | true=>exact absurd (Or.inl rfl) q
    subst ho
    unfold prs
    by_cases h1:a=i∧b=j
    · have h2:¬ (b=i∧a=j):=fun z=>h (by rw [h1.1,← z.1])
      simp [h1,h2]
      simp [h1] at h2
      split
      · rename_i z; exact absurd z.2 (h2 z.1)
      · rfl
    · by_cases h2:b=i∧a=j
      · simp [h1,h2]
        simp [h2] at h1
        split
        · rename_i z; exact absurd z.2 (h1 z.1)
        · rfl
      · simp [h1,h2]
theorem allP_lf (i j:Int) (ts:List T4) (h:∀ t∈ts,t.1≠t.2.1):allP i j (ts.map lf)=allP i j ts:=by
  induction ts with
  | nil=>rfl
  | cons t ts ih=>
    show prs i j (lf t)++allP i j (ts.map lf)=prs i j t++allP i j ts
    rw [prs_lf i j t (h t List.mem_cons_self),ih fun u hu=>h u (List.mem_cons_of_mem _ hu)]
theorem prs_len (i j:Int) (t:T4):(prs i j t).length≤2:=by
  unfold prs
  rw [List.length_append]
  have h1:∀ (c:Prop) [Decidable c] (x:Int×Int),(if c then [x] else []).length≤1:=fun c _ x=>by split <;> simp
  have:=h1 (t.1=i∧t.2.1=j) (t.2.2.1,if t.2.2.2=true then 1 else 0)
  have:=h1 (t.2.1=i∧t.1=j) (t.2.2.1,if t.2.2.2=true then 2 else 0)
  lia
theorem allP_len (i j:Int) (ts:List T4):(allP i j ts).length≤2 * ts.length:=by
  induction ts with
  | nil=>exact Nat.le_refl _
  | cons t ts ih=>
    show (prs i j t++allP i j ts).length≤2 * (ts.length + 1)
    rw [List.length_append]
    have:=prs_len i j t
    lia
noncomputable def JOk (kvs:List (List Key×D)) (ts:List T4):Prop:=∀ i j:Int,valD kvs [.inl i,.inl j]=if allP i j ts=[] then none else some (srP (allP i j ts))
theorem JOk.get {kvs:List (List Key×D)} {ts:List T4} (h:JOk kvs ts) (i j:Int):(valD kvs [.inl i,.inl j]).getD (.tup [])=srP (allP i j ts):=by
  rw [h i j]
  split
  · rename_i q; rw [q]; rfl
  · rfl
theorem key_ne {a b i j:Int} (h:¬ (a=i∧b=j)):¬ ([.inl a,.inl b]:List Key)=[.inl i,.inl j]:=by
  intro q
  injection q with q1 q2
  injection q2 with q2 _
  exact h ⟨Sum.inl.inj q1,Sum.inl.inj q2⟩
theorem put_J (C:Addr) (kvs:List (List Key×D)) (a b k f:Int) (ps:List (Int×Int)) (hg:(valD kvs [.inl a,.inl b]).getD (.tup [])=srP ps) (pl:ps.length≤50) (hkl:kvs.length < 1000) :
    mM_q29 C (.dT kvs) [.v (.tup [.int a,.int b]),.v (.tup [.int k,.int f])]=some (.dT (putD kvs [.inl a,.inl b] (srP (ps++[(k,f)]))),.non):=by
  obtain ⟨us,eu,up⟩:=perm_map_inv dP unP (fun _=>rfl) (sortD_perm (ps.map dP))
  have hg':(valD kvs [.inl a,.inl b]).getD (.tup [])=.tup (us.map dP):=hg.trans (congrArg D.tup eu)
  have ul:us.length≤50:=by rw [up.length_eq]; exact pl
  have ha:addA (.tup (us.map dP)) (.tup [.tup [.int k,.int f]])=some (.tup ((us++[(k,f)]).map dP)):=by
    rw [List.map_append]
    exact if_pos (by rw [List.length_map]; show us.length + 1≤_; lia)
  have hso:=sortOk_P (us++[(k,f)]) (by rw [List.length_append,List.length_singleton]; lia)
  have hs:D.tup (sortD ((us++[(k,f)]).map dP))=srP (ps++[(k,f)]):=srP_perm (up.append_right _)
  rw [← hs]
  refine mMof_eq rfl rfl fun ad=>⟨.nx [some (.own (.dT (putD kvs [.inl a,.inl b] (.tup (sortD ((us++[(k,f)]).map dP))))) (some ad)),some (.v (.tup [.int a,.int b])),some (.v (.tup [.int k,.int f]))],?_,rfl,rfl⟩
  have hkl':kvs.length < 16777216:=by lia
  generalize (us++[(k,f)]).map dP=L at *
  generalize us.map dP=L0 at *
  unfold g_q29
  simp [dPutT_ap,dctGet2_ap,keyT,keysOf,dKey,hg',ha,sortL_ap,hso,tupD,hkl']
theorem prs_1 (a b k:Int) (o:Bool) (hab:a≠b):prs a b (a,b,k,o)=[(k,if o=true then 1 else 0)]:=by
  show (if a=a∧b=b then [(k,if o=true then (1:Int) else 0)] else [])++(if b=a∧a=b then [(k,if o=true then (2:Int) else 0)] else [])=_
  rw [if_pos (⟨rfl,rfl⟩:a=a∧b=b),if_neg (fun z:b=a∧a=b=>hab z.2)]
  rfl
theorem prs_2 (a b k:Int) (o:Bool) (hab:a≠b):prs b a (a,b,k,o)=[(k,if o=true then 2 else 0)]:=by
  show (if a=b∧b=a then [(k,if o=true then (1:Int) else 0)] else [])++(if b=b∧a=a then [(k,if o=true then (2:Int) else 0)] else [])=_
  rw [if_pos (⟨rfl,rfl⟩:b=b∧a=a),if_neg (fun z:a=b∧b=a=>hab z.1)]
  rfl
theorem prs_0 (i j a b k:Int) (o:Bool) (h1:¬ (b=i∧a=j)) (h2:¬ (a=i∧b=j)):prs i j (a,b,k,o)=[]:=by
  show (if a=i∧b=j then [(k,if o=true then (1:Int) else 0)] else [])++(if b=i∧a=j then [(k,if o=true then (2:Int) else 0)] else [])=_
  rw [if_neg h2,if_neg h1]
  rfl
theorem JOk.step {kvs:List (List Key×D)} {ts:List T4} (h:JOk kvs ts) (a b k:Int) (o:Bool) (hab:a≠b) :
    JOk (putD (putD kvs [.inl a,.inl b] (srP (allP a b ts++[(k,if o=true then 1 else 0)]))) [.inl b,.inl a] (srP (allP b a ts++[(k,if o=true then 2 else 0)]))) (ts++[(a,b,k,o)]):=by
  intro i j
  rw [allP_one,valD_put,valD_put]
  by_cases h1:b=i∧a=j
  · obtain ⟨rfl,rfl⟩:=h1
    rw [prs_2 a b k o hab]
    generalize (k,if o=true then (2:Int) else 0)=q
    rw [if_pos rfl,if_neg (by simp)]
  · rw [if_neg (key_ne h1)]
    by_cases h2:a=i∧b=j
    · obtain ⟨rfl,rfl⟩:=h2
      rw [prs_1 a b k o hab]
      generalize (k,if o=true then (1:Int) else 0)=q
      rw [if_pos rfl,if_neg (by simp)]
    · rw [if_neg (key_ne h2),h i j,prs_0 i j a b k o h1 h2,List.append_nil]
theorem take_one {α:Type} {l:List α} {j:Nat} {x:α} (h:l[j]?=some x):l.take (j + 1)=l.take j++[x]:=by
  rw [List.take_add_one,h]
  rfl
theorem joins_J (C:Addr) (ts:List T4) (hl:ts.length≤12) (hd:∀ t∈ts,t.1≠t.2.1):∃ kvs,m_q7 C [.v (.lst (ts.map dT4))]=some (.own (.dT kvs) none)∧JOk kvs ts:=by
  have hM:=put_J C
  unfold m_q7 g_q7
  generalize mM_q29 C=M at hM ⊢
  obtain ⟨z,e,kvs,y2,y3,y4,y5,rfl,hk,hJ⟩:=forD_ix (st:=setT [2,3,4,5]) (body:=(dSeq (dMcall K0 1 M (aV (asT (lcons (getV 2) (lcons (getV 3) lnil))) (aV (asT (lcons (getV 4) (lcons (ifV (asB (getV 5)) (fun _=>some (.int 1)) (fun _=>some (.int 0))) lnil))) (fun _=>some []))))
    (dMcall K0 1 M (aV (asT (lcons (getV 3) (lcons (getV 2) lnil))) (aV (asT (lcons (getV 4) (lcons (ifV (asB (getV 5)) (fun _=>some (.int 2)) (fun _=>some (.int 0))) lnil))) (fun _=>some []))))))
    (fun j ρ=>∃ (kvs:List (List Key×D)) (x2 x3 x4 x5:Option DV),ρ=[some (.v (.lst (ts.map dT4))),some (.own (.dT kvs) none),x2,x3,x4,x5]∧kvs.length≤2 * j∧JOk kvs (ts.take j)) (ts.map dT4) 0
    [some (.v (.lst (ts.map dT4))),some (.own (.dT []) none),none,none,none,none] ⟨[],_,_,_,_,rfl,Nat.le_refl _,fun _ _=>rfl⟩ (by
      rintro j d _ hj ⟨kvs,x2,x3,x4,x5,rfl,hk,hJ⟩
      rw [Nat.zero_add] at hk hJ ⊢
      rw [List.getElem?_map] at hj
      cases ht:ts[j]? with
      | none=>rw [ht] at hj; cases hj
      | some t=>
      rw [ht] at hj
      cases hj
      have hlt:j < ts.length:=(List.getElem?_eq_some_iff.mp ht).1
      obtain ⟨a,b,k,o⟩:=t
      have hab:a≠b:=hd _ (List.mem_of_getElem? ht)
      have l1:=allP_len a b (ts.take j)
      have l2:=allP_len b a (ts.take j)
      have l3:(ts.take j).length≤12:=by rw [List.length_take]; lia
      have e1:=hM kvs a b k (if o=true then 1 else 0) _ (hJ.get a b) (by lia) (by lia)
      have l4:=putD_len [.inl a,.inl b] (srP (allP a b (ts.take j)++[(k,if o=true then 1 else 0)])) kvs
      have g2:(valD (putD kvs [.inl a,.inl b] (srP (allP a b (ts.take j)++[(k,if o=true then 1 else 0)]))) [.inl b,.inl a]).getD (.tup [])=srP (allP b a (ts.take j)):=by
        rw [valD_put,if_neg (key_ne fun z=>hab z.1)]
        exact hJ.get b a
      have e2:=hM _ b a k (if o=true then 2 else 0) _ g2 (by lia) (by lia)
      have hs:=hJ.step a b k o hab
      rw [← take_one ht] at hs
      have l5:=putD_len [.inl b,.inl a] (srP (allP b a (ts.take j)++[(k,if o=true then 2 else 0)])) (putD kvs [.inl a,.inl b] (srP (allP a b (ts.take j)++[(k,if o=true then 1 else 0)])))
      generalize putD kvs [.inl a,.inl b] (srP (allP a b (ts.take j)++[(k,if o=true then 1 else 0)]))=kvs1 at *
      generalize putD kvs1 [.inl b,.inl a] (srP (allP b a (ts.take j)++[(k,if o=true then 2 else 0)]))=kvs2 at *
      refine ⟨[some (.v (.lst (ts.map dT4))),some (.own (.dT kvs) none),some (.v (.int a)),some (.v (.int b)),some (.v (.int k)),some (.v (.bl o))],rfl,[some (.v (.lst (ts.map dT4))),some (.own (.dT kvs2) none),some (.v (.int a)),some (.v (.int b)),some (.v (.int k)),some (.v (.bl o))],?_,kvs2,_,_,_,_,rfl,by lia,hs⟩
      clear g2 hs hJ l1 l2 l3 l4 l5 hM
      cases o with
      | true=>
        simp only [if_true] at e1 e2
        simp [dMcall,tMcall,allV,e1,e2]
      | false=>
        simp at e1 e2
        simp [dMcall,tMcall,allV,e1,e2])
  rw [Nat.zero_add,List.length_map,List.take_length] at hJ
  refine ⟨kvs,?_,hJ⟩
  rw [mOf_1]
  have s0:dSetO 1 (fun _=>some (.dT [])) (startD 6 1 [.v (.lst (ts.map dT4))])=some (.nx [some (.v (.lst (ts.map dT4))),some (.own (.dT []) none),none,none,none,none]):=rfl
  rw [dSeq_nx s0,dSeq_nx (dFor_nx (ds:=ts.map dT4) rfl e)]
  rfl
theorem JOk.perm {kvs:List (List Key×D)} {us ts:List T4} (h:JOk kvs us) (p:∀ i j,(allP i j us).Perm (allP i j ts)):JOk kvs ts:=by
  intro i j
  have hp:=p i j
  rw [h i j,srP_perm hp]
  by_cases q:allP i j us=[]
  · rw [q] at hp
    rw [if_pos q,if_pos hp.symm.eq_nil]
  · rw [if_neg q,if_neg fun z=>q (by rw [z] at hp; exact hp.eq_nil)]
theorem init_J (C:Addr) (ks:List Str) (ts:List T4) (n:Int) (hn:1≤n∧n≤7) (hk:okK n ks) (hs:okS n ts):∃ kvs,JOk kvs ts∧mM_q0 C (.ins C []) [.v (.lst (ks.map .str)),.v (.lst (ts.map dT4))]=some (.ins C (wFs ks (.lst (srt ts)) (.dT kvs)),.non):=by
  have hR:=refuse_ok C ks ts n hn hk hs
  have hL:=lesser_ok C
  obtain ⟨us,eu,up⟩:=sort_T4 (ts.map lf)
  have hd:∀ t∈ts,t.1≠t.2.1:=fun t ht=>(hs.2 t ht).2.2.2.2.1
  obtain ⟨kvs,hJ,hO⟩:=joins_J C us (by rw [up.length_eq,List.length_map]; exact hs.1) (fun t ht=>by
    obtain ⟨u,hu,rfl⟩:=List.mem_map.mp (up.mem_iff.mp ht)
    exact (lf_ok (hs.2 u hu)).2.2.2.2.1)
  have hso:=sortOk_T4 (ts.map lf) (by rw [List.length_map]; have:=hs.1; lia)
  refine ⟨kvs,hO.perm fun i j=>?_,mMof_eq rfl rfl fun ad=>⟨.nx [some (.own (.ins C (wFs ks (.lst (srt ts)) (.dT kvs))) (some ad)),some (.v (.lst (ks.map .str))),some (.v (.lst (ts.map dT4)))],?_,rfl,rfl⟩⟩
  · have:=allP_perm (i:=i) (j:=j) up
    rwa [allP_lf i j ts hd] at this
  unfold g_q0
  generalize m_q31 C=R at hR ⊢
  generalize m_q28 C=L at hL ⊢
  generalize m_q7 C=J at hJ ⊢
  have hsr:srt ts=us.map dT4:=eu
  rw [hsr]
  have c1:mapD (setV 0) dYes (callV L (aV (getV 0) (fun _=>some []))) [none] (ts.map dT4)=some ((ts.map lf).map dT4):=by
    rw [List.map_map]
    refine mapD_map dT4 _ ts fun t _=>⟨[some (.v (dT4 t))],rfl,rfl,?_⟩
    simp [hL]
  have tl:ts.length≤16777216:=by have:=hs.1; lia
  generalize (callV L (aV (getV 0) (fun _=>some [])))=E at c1 ⊢
  generalize (ts.map lf).map dT4=X at *
  have hf:∀ fs:List (Str×D),fldC C "ties" (.ins C [("kinds",.lst (ks.map .str)),("ties",.lst (us.map dT4))])=some (.lst (us.map dT4)):=by
    intro _
    rw [fldC_in]
    simp [List.lookup,b1]
  have hf':=hf []
  generalize us.map dT4=Y at *
  generalize hX:ts.map dT4=Z at *
  have hZ:Z.length≤16777216:=by rw [← hX,List.length_map]; exact tl
  simp [hR,dSetF_ap,putFD,sortL_ap,dComp_ap,hZ,c1,hso,eu,hf',hJ,n1,n2,n3,wFs]
theorem make_J (C:Addr) (ks:List Str) (ts:List T4) (n:Int) (hn:1≤n∧n≤7) (hk:okK n ks) (hs:okS n ts):∃ kvs,JOk kvs ts∧∀ (g:DF→Option (List DV)) (ρ:DF),g ρ=some [.v (.lst (ks.map .str)),.v (.lst (ts.map dT4))]→makeO C (mM_q0 C) g ρ=some (.ins C (wFs ks (.lst (srt ts)) (.dT kvs))):=by
  obtain ⟨J,h,e⟩:=init_J C ks ts n hn hk hs
  refine ⟨J,h,fun g ρ h=>?_⟩
  unfold makeO
  rw [h,Option.bind_some,e]
  rfl
theorem eqD_P (a b i j:Int):eqD (.tup [.int a,.int b]) (.tup [.int i,.int j])=some (.bl (decide (a=i∧b=j))):=by
  rw [eqD_of rfl rfl]
  have h:=eqd_iff (.tup [.int a,.int b]) (.tup [.int i,.int j]) rfl
  by_cases e:a=i∧b=j
  · rw [decide_eq_true e,h.mpr (by rw [e.1,e.2])]
  · rw [decide_eq_false e]
    cases q:eqd (.tup [.int a,.int b]) (.tup [.int i,.int j]) with
    | false=>rfl
    | true=>exact absurd (by simpa using h.mp q) e
theorem intD_bl (o:Bool):intD (.bl o)=some (.int (if o=true then 1 else 0)):=rfl
noncomputable abbrev tbS (ts:List T4) (kvs:List (List Key×D)) (S:Int→Int→Prop):Prop:=∀ a b,S a b→valD kvs [.inl a,.inl b]=some (srP (allP a b ts))
theorem tb_put {ts:List T4} {kvs:List (List Key×D)} {S S':Int→Int→Prop} (h:tbS ts kvs S) (i j:Int) (hs:∀ a b,S' a b→S a b∨(i=a∧j=b)):tbS ts (putD kvs [.inl i,.inl j] (srP (allP i j ts))) S':=by
  intro a b q
  rw [valD_put]
  by_cases e:i=a∧j=b
  · obtain ⟨rfl,rfl⟩:=e
    rw [if_pos rfl]
  · rw [if_neg (key_ne e)]
    rcases hs a b q with z | z
    · exact h a b z
    · exact absurd z e
theorem b8:(("between":Str) == "kinds")=false:=by decide +kernel
theorem b9:(("between":Str) == "ties")=false:=by decide +kernel
theorem b10:(("between":Str) == "joins")=false:=by decide +kernel
theorem b11:(("joins":Str) == "kinds")=false:=by decide +kernel
theorem b12:(("joins":Str) == "ties")=false:=by decide +kernel
theorem fld_joins (C:Addr) (ks:List Str) (T J:D):fldC C "joins" (.ins C (wFs ks T J))=some J:=by
  rw [fldC_in]
  simp [wFs,List.lookup,b11,b12]
theorem lk_between (ks:List Str) (T J:D):(wFs ks T J).lookup ("between":Str)=none:=by
  simp [wFs,List.lookup,b8,b9,b10]
theorem selfC_w {C:Addr} {ks:List Str} {T J:D} {mn:Str} (h:(wFs ks T J).lookup mn=none) (xs:List DV):selfC C mn (.v (.ins C (wFs ks T J))::xs)=true:=by
  show (match (if C=C then some (wFs ks T J) else none) with | some fs=>(fs.lookup mn).isNone | none=>false)=true
  rw [if_pos rfl]
  simp only
  rw [h]
  rfl
theorem size_at (C:Addr) (ks:List Str) (T J:D) (n:Int) (hk:(ks.length:Int)=n) (ρ:DF) (h:ρ[0]?=some (some (.v (.ins C (wFs ks T J))))):callMV C "size" (m_q2 C) (mArgs (selfB 0) g0) ρ=some (.int n):=by
  have hS:m_q2 C [.v (.ins C (wFs ks T J))]=some (.v (.int n)):=by
    have:=fld_kinds C ks T J
    generalize wFs ks T J=F at this
    simp [m_q2,g_q2,this,hk]
  have hm:mArgs (selfB 0) g0 ρ=some [.v (.ins C (wFs ks T J))]:=by
    unfold mArgs selfB g0
    rw [h]
    rfl
  unfold callMV
  rw [hm,Option.bind_some,if_pos (selfC_w (lk_size ks T J) _),hS]
  rfl
noncomputable def nr (ts:List T4) (n p:Int):List Int:=(rngI n).filter fun o=>!decide (allP p o ts=[])
theorem between_ok (C:Addr) (ks:List Str) (T:D) (kvs:List (List Key×D)) (ts:List T4) (i j:Int) (hJ:JOk kvs ts) :
    m_q1 C [.v (.ins C (wFs ks T (.dT kvs))),.v (.int i),.v (.int j)]=some (.v (srP (allP i j ts))):=by
  have hf:=fld_joins C ks T (.dT kvs)
  have hg:=hJ.get i j
  generalize wFs ks T (.dT kvs)=F at *
  generalize srP (allP i j ts)=R at *
  simp [m_q1,g_q1,dctGet2_ap,hf,keyT,keysOf,dKey,hg]
theorem spread_ok (C:Addr) (c f:Int) (hf:0≤f∧f < 9223372036854775808):∃ r:Int,m_q24 C [.v (.int c),.v (.int f)]=some (.v (.int r))∧0≤r∧r < 2147483647:=by
  have m1:=modD_int c 2147483647 (by decide)
  have u1:=mulD_int (c % 2147483647 + 1) f (.inr (by lia))
  have m2:=modD_int ((c % 2147483647 + 1) * f) 2147483647 (by decide)
  exact ⟨(c % 2147483647 + 1) * f % 2147483647,by simp [m_q24,g_q24,m1,u1,m2],Int.emod_nonneg _ (by decide),Int.emod_lt_of_pos _ (by decide)⟩
theorem at_ok (C:Addr) (ns:List Int) (k:Int) (hk:0≤k):∃ x:Int,m_q11 C [.v (.lst (ns.map .int)),.v (.int k)]=some (.v (.int x)):=by
  by_cases h:k < (ns.length:Int)
  · obtain ⟨x,_,e⟩:=atI_map (l:=ns) D.int hk h
    exact ⟨x,by simp [m_q11,g_q11,h,ix1,e]⟩
  · exact ⟨0,by simp [m_q11,g_q11,h]⟩
theorem fold_ok (C:Addr) (ns:List Int):∃ r:Int,m_q16 C [.v (.lst (ns.map .int)),.v (.int 1000000000000000000000000000000)]=some (.v (.int r))∧0≤r∧r < 1000000000000000000000000000000:=by
  obtain ⟨z,e,r,x3,r0,r1,rfl⟩:=forD_inv (st:=setV 3) (body:=(dSet 2 (d2 modD (d2 addA (d2 mulD (getR 2) (fun _=>some (.int 1000003))) (getR 3)) (getR 1)))) (fun ρ=>∃ r x3,0≤r∧r < 1000000000000000000000000000000∧ρ=[some (.v (.lst (ns.map .int))),some (.v (.int 1000000000000000000000000000000)),some (.v (.int r)),x3]) (ds:=ns.map .int)
    (ρ:=[some (.v (.lst (ns.map .int))),some (.v (.int 1000000000000000000000000000000)),some (.v (.int 0)),none]) ⟨0,_,by decide,by decide,rfl⟩ (by
      rintro d hd _ ⟨r,x3,r0,r1,rfl⟩
      obtain ⟨c,_,rfl⟩:=List.mem_map.mp hd
      have u:=mulD_int r 1000003 (.inr (by decide))
      have m:=modD_int (r * 1000003 + c) 1000000000000000000000000000000 (by decide)
      refine ⟨_,rfl,[some (.v (.lst (ns.map .int))),some (.v (.int 1000000000000000000000000000000)),some (.v (.int ((r * 1000003 + c) % 1000000000000000000000000000000))),some (.v (.int c))],?_,_,_,Int.emod_nonneg _ (by decide),Int.emod_lt_of_pos _ (by decide),rfl⟩
      generalize ns.map D.int=N
      simp [u,m])
  refine ⟨r,?_,r0,r1⟩
  unfold m_q16 g_q16
  rw [mOf_2]
  have s0:dSet 2 (fun _=>some (.int 0)) (startD 4 2 [.v (.lst (ns.map .int)),.v (.int 1000000000000000000000000000000)])=some (.nx [some (.v (.lst (ns.map .int))),some (.v (.int 1000000000000000000000000000000)),some (.v (.int 0)),none]):=rfl
  rw [dSeq_nx s0,dSeq_nx (dFor_nx (ds:=ns.map .int) rfl e)]
  rfl
theorem appPop_of {i j:Nat} {f:DF→Option D} {ρ:DF} {left order:List Int} {k:Int} (hij:i≠j) (hj:ρ[j]?=some (some (.own (.lst (left.map .int)) none))) (hi:ρ[i]?=some (some (.own (.lst (order.map .int)) none))) (hf:f ρ=some (.int k)) (h0:0≤k) (h1:k < (left.length:Int)) (hl:left.length < 1000) (ho:order.length < 1000) :
    ∃ (m:Nat) (hm:m < left.length),dAppPop i j f ρ=some (.nx ((ρ.set j (some (.own (.lst ((left.eraseIdx m).map .int)) none))).set i (some (.own (.lst ((order++[left[m]]).map .int)) none)))):=by
  have kl:k.toNat < left.length:=by lia
  have hp:=popIx_in h0 h1 hl
  have hget:(left.map D.int)[k.toNat]?=some (.int left[k.toNat]):=by rw [List.getElem?_map,List.getElem?_eq_getElem kl]; rfl
  refine ⟨k.toNat,kl,?_⟩
  have hpop:dPop j f ρ=some (ρ.set j (some (.own (.lst ((left.eraseIdx k.toNat).map .int)) none)),.int left[k.toNat]):=by
    unfold dPop
    rw [hj]
    simp only [hf,Option.bind_some,List.length_map,hp,hget,map_erase]
    rfl
  unfold dAppPop
  rw [hpop,Option.bind_some]
  simp only
  rw [List.getElem?_set_ne (Ne.symm hij),hi]
  simp only
  rw [if_pos ⟨hij,by rw [List.length_map]; lia⟩,List.map_append]
  rfl
theorem ord_step (A S:List DV→Option DV) (N:List D) (n f:Int) (j:Nat) (x r:Int) (left order:List Int) (x6:Option DV) (hj:j≤7) (hx:A [.v (.lst N),.v (.int (j:Int))]=some (.v (.int x))) (hr:S [.v (.int (x + (j:Int) * (j:Int))),.v (.int f)]=some (.v (.int r))) (lp:0 < left.length) (ll:left.length≤7) (ol:order.length≤7) :
    ∃ (m:Nat) (hm:m < left.length),(dSeq (dSet 6 (callV S (aV (d2 addA (callV A (aB 0 (aB 5 (fun _=>some [])))) (d2 mulD (getR 5) (getR 5))) (aB 2 (fun _=>some [])))))
    (dAppPop 4 3 (d2 modD (d2 fdivD (getR 6) (fun _=>some (.int 3))) (d1 lenD (getN 3))))) [some (.v (.lst N)),some (.v (.int n)),some (.v (.int f)),some (.own (.lst (left.map .int)) none),some (.own (.lst (order.map .int)) none),some (.v (.int (j:Int))),x6]
      = some (.nx [some (.v (.lst N)),some (.v (.int n)),some (.v (.int f)),some (.own (.lst ((left.eraseIdx m).map .int)) none),some (.own (.lst ((order++[left[m]]).map .int)) none),some (.v (.int (j:Int))),some (.v (.int r))]):=by
  have u:=mulD_int (j:Int) (j:Int) (.inl (by lia))
  have d3:=fdivD_int r 3 (by decide)
  have ml:=modD_int (r / 3) (left.length:Int) (by lia)
  have s1:dSet 6 (callV S (aV (d2 addA (callV A (aB 0 (aB 5 (fun _=>some [])))) (d2 mulD (getR 5) (getR 5))) (aB 2 (fun _=>some [])))) [some (.v (.lst N)),some (.v (.int n)),some (.v (.int f)),some (.own (.lst (left.map .int)) none),some (.own (.lst (order.map .int)) none),some (.v (.int (j:Int))),x6]
      = some (.nx [some (.v (.lst N)),some (.v (.int n)),some (.v (.int f)),some (.own (.lst (left.map .int)) none),some (.own (.lst (order.map .int)) none),some (.v (.int (j:Int))),some (.v (.int r))]):=by
    generalize left.map D.int=U
    generalize order.map D.int=V
    generalize (j:Int)=jj at hx hr u ⊢
    simp -implicitDefEqProofs [hx,u,hr]
  have hk:d2 modD (d2 fdivD (getR 6) (fun _=>some (.int 3))) (d1 lenD (getN 3)) [some (.v (.lst N)),some (.v (.int n)),some (.v (.int f)),some (.own (.lst (left.map .int)) none),some (.own (.lst (order.map .int)) none),some (.v (.int (j:Int))),some (.v (.int r))]=some (.int (r / 3 % (left.length:Int))):=by
    have lm:(left.map D.int).length=left.length:=List.length_map ..
    generalize left.map D.int=U at *
    simp [d3,lm,ml]
  obtain ⟨m,hm,e2⟩:=appPop_of (i:=4) (j:=3) (left:=left) (order:=order) (by decide) rfl rfl hk (Int.emod_nonneg _ (by lia)) (Int.emod_lt_of_pos _ (by lia)) (by lia) (by lia)
  exact ⟨m,hm,(dSeq_nx s1).trans e2⟩
theorem order_ok' (C:Addr) (ns:List Int) (n f:Int) (hn:1≤n∧n≤7) (hf:0≤f∧f < 9223372036854775808):∃ out:List Int,m_q20 C [.v (.lst (ns.map .int)),.v (.int n),.v (.int f)]=some (.own (.lst (out.map .int)) none)∧out.Perm (rngI n):=by
  have hA:=at_ok C ns
  have hS:=fun c=>spread_ok C c f hf
  unfold m_q20 g_q20
  generalize m_q11 C=A at hA ⊢
  generalize m_q24 C=S at hS ⊢
  have hN:((rngI n).length:Int)=n:=by rw [rngI_len]; lia
  obtain ⟨z,e,left,order,x5,x6,rfl,hp,hl⟩:=forD_ix (st:=setV 5) (body:=(dSeq (dSet 6 (callV S (aV (d2 addA (callV A (aB 0 (aB 5 (fun _=>some [])))) (d2 mulD (getR 5) (getR 5))) (aB 2 (fun _=>some [])))))
    (dAppPop 4 3 (d2 modD (d2 fdivD (getR 6) (fun _=>some (.int 3))) (d1 lenD (getN 3)))))) (fun j ρ=>∃ left order x5 x6,ρ=[some (.v (.lst (ns.map .int))),some (.v (.int n)),some (.v (.int f)),some (.own (.lst (left.map .int)) none),some (.own (.lst (order.map .int)) none),x5,x6]∧(order++left).Perm (rngI n)∧order.length=j) ((rngI n).map .int) 0
    [some (.v (.lst (ns.map .int))),some (.v (.int n)),some (.v (.int f)),some (.own (.lst ((rngI n).map .int)) none),some (.own (.lst []) none),none,none] ⟨rngI n,[],_,_,rfl,.refl _,rfl⟩ (by
      rintro j d _ hj ⟨left,order,x5,x6,rfl,hp,hl⟩
      rw [Nat.zero_add] at hl ⊢
      have hjn:j < n.toNat:=by have:=(List.getElem?_eq_some_iff.mp hj).1; rwa [List.length_map,rngI_len] at this
      rw [rngI_at hj]
      have hlen:=hp.length_eq
      rw [List.length_append,rngI_len] at hlen
      obtain ⟨x,hx⟩:=hA (j:Int) (Int.natCast_nonneg j)
      obtain ⟨r,hr,r0,r1⟩:=hS (x + (j:Int) * (j:Int))
      obtain ⟨m,hm,e2⟩:=ord_step A S (ns.map .int) n f j x r left order x6 (by lia) hx hr (by lia) (by lia) (by lia)
      refine ⟨_,rfl,_,e2,left.eraseIdx m,order++[left[m]],_,_,rfl,?_,by rw [List.length_append,List.length_singleton,hl]⟩
      refine List.Perm.trans ?_ hp
      rw [List.append_assoc]
      exact List.Perm.append_left _ (get_erase_perm _ m hm))
  rw [Nat.zero_add,List.length_map,rngI_len] at hl
  have hlen:=hp.length_eq
  rw [List.length_append,rngI_len] at hlen
  have hnil:left=[]:=List.length_eq_zero_iff.mp (by lia)
  subst hnil
  rw [List.append_nil] at hp
  refine ⟨order,?_,hp⟩
  rw [mOf_3]
  have hr:lrng1 (getV 1) (startD 7 3 [.v (.lst (ns.map .int)),.v (.int n),.v (.int f)])=some ((rngI n).map .int):=by
    show (if n < 16777216∧-(2 ^ 62)≤n then some (rangeL 0 n.toNat) else none)=_
    rw [if_pos (by lia),rangeL_eq]
  have s0:dSetO 3 (asL (lrng1 (getV 1))) (startD 7 3 [.v (.lst (ns.map .int)),.v (.int n),.v (.int f)])=some (.nx [some (.v (.lst (ns.map .int))),some (.v (.int n)),some (.v (.int f)),some (.own (.lst ((rngI n).map .int)) none),none,none,none]):=by
    rw [dSetO_ap,asL_ap,hr]
    rfl
  have s1:dSetO 4 (asL lnil) [some (.v (.lst (ns.map .int))),some (.v (.int n)),some (.v (.int f)),some (.own (.lst ((rngI n).map .int)) none),none,none,none]=some (.nx [some (.v (.lst (ns.map .int))),some (.v (.int n)),some (.v (.int f)),some (.own (.lst ((rngI n).map .int)) none),some (.own (.lst []) none),none,none]):=rfl
  rw [dSeq_nx s0,dSeq_nx s1,dSeq_nx (dFor_nx (ds:=(rngI n).map .int) (rng1_of rfl ⟨by lia,by lia⟩) e)]
  rfl
theorem dis4 {x:Int} (h:0≤x∧x < 4):x=0∨x=1∨x=2∨x=3:=by
  obtain ⟨m,rfl⟩:=Int.eq_ofNat_of_zero_le h.1
  have key:∀ m:Fin 4,((m:Nat):Int)=0∨((m:Nat):Int)=1∨((m:Nat):Int)=2∨((m:Nat):Int)=3:=by decide
  exact key ⟨m,Int.ofNat_lt.mp h.2⟩
theorem dis9 {x:Int} (h:0≤x∧x < 9):x=0∨x=1∨x=2∨x=3∨x=4∨x=5∨x=6∨x=7∨x=8:=by
  obtain ⟨m,rfl⟩:=Int.eq_ofNat_of_zero_le h.1
  have key:∀ m:Fin 9,((m:Nat):Int)=0∨((m:Nat):Int)=1∨((m:Nat):Int)=2∨((m:Nat):Int)=3∨((m:Nat):Int)=4∨((m:Nat):Int)=5∨((m:Nat):Int)=6∨((m:Nat):Int)=7∨((m:Nat):Int)=8:=by decide
  exact key ⟨m,Int.ofNat_lt.mp h.2⟩
theorem forD_cons {st:D→DF→Option DF} {body:DF→Option RES} {d:D} {ds:List D} {ρ ρ1 ρ2:DF} (h1:st d ρ=some ρ1) (h2:body ρ1=some (.nx ρ2)):forD st body (d::ds) ρ=forD st body ds ρ2:=by
  conv=>lhs; unfold forD
  rw [h1]
  simp only [h2]
noncomputable def okL (m:Nat) (x:Str):Prop:=x.cps.size=m∧∀ c∈x.cps.toList,97≤c∧c≤122
theorem okL_cat {m k:Nat} {x y:Str} (hx:okL m x) (hy:okL k y) (h:m + k≤100):addA (.str x) (.str y)=some (.str (x++y))∧okL (m + k) (x++y):=by
  have e:(x++y).cps=x.cps++y.cps:=rfl
  refine ⟨if_pos ?_,?_,?_⟩
  · show x.cps.size + y.cps.size≤_
    rw [hx.1,hy.1]
    lia
  · rw [e,Array.size_append,hx.1,hy.1]
  · intro c hc
    rw [e,Array.toList_append] at hc
    rcases List.mem_append.mp hc with hc | hc
    · exact hx.2 c hc
    · exact hy.2 c hc
theorem okL_m (k:Int) (h:0≤k∧k < 5):∃ x,mulS (.str "m") (.int k)=some (.str x)∧okL k.toNat x:=by
  have hm:("m":Str).length≤1000:=by decide
  have e:∀ j:Int,0≤j∧j < 5→mulS (.str "m") (.int j)=some (.str (repS "m" j)):=fun j hj=>if_pos ⟨by lia,by lia,hm⟩
  refine ⟨_,e k h,?_⟩
  obtain ⟨m,rfl⟩:=Int.eq_ofNat_of_zero_le h.1
  have key:∀ m:Fin 5,(repS "m" ((m:Nat):Int)).cps.size=(m:Nat)∧((repS "m" ((m:Nat):Int)).cps.toList.all fun c=>decide (97≤c∧c≤122))=true:=by decide +kernel
  obtain ⟨k1,k2⟩:=key ⟨m,by lia⟩
  refine ⟨k1,fun c hc=>?_⟩
  simpa using List.all_eq_true.mp k2 c hc
theorem okL_let (i:Int) (h:0≤i∧i < 12):∃ x,ixD (.str "abcdefghijkl") (.int i)=some (.str x)∧okL 1 x:=by
  obtain ⟨m,rfl⟩:=Int.eq_ofNat_of_zero_le h.1
  have key:∀ j:Fin 12,(atI ("abcdefghijkl":Str).cps.toList ((j:Nat):Int))=some (97 + (j:Nat)):=by decide +kernel
  have k1:=key ⟨m,by lia⟩
  refine ⟨⟨#[97 + m]⟩,?_,rfl,fun c hc=>?_⟩
  · show (if ("abcdefghijkl":Str).length≤16777216 then (atI ("abcdefghijkl":Str).cps.toList ((m:Nat):Int)).map fun c=>D.str ⟨#[c]⟩ else none)=_
    rw [show atI ("abcdefghijkl":Str).cps.toList ((m:Nat):Int)=some (97 + m) from k1]
    rfl
  · have:c=97 + m:=by simpa using hc
    lia
theorem okL_W {m:Nat} {x:Str} (h:okL m x) (hm:1≤m∧m≤3):okW x:=⟨by rw [h.1]; exact hm.1,by rw [h.1]; exact hm.2,h.2⟩
noncomputable abbrev kdF (N:List D) (n r L a g:Int) (x6 x7 x8 x9 x10:Option DV):DF:=[some (.v (.lst N)),some (.v (.int n)),some (.v (.int r)),some (.v (.int L)),some (.v (.int a)),some (.v (.int g)),x6,x7,x8,x9,x10]
theorem kd_word (N:List D) (n r L a g k:Int) (ws:List Str) (x8 x9 x10:Option DV) (hL:1≤L∧L≤3) (ha:0≤a∧a < L) (hg:0≤g∧g≤10) (hk:0≤k∧k≤1) (hw:ws.length≤10):∃ (w:Str) (y8:Option DV),okW w ∧
    (dSeq (dSet 8 (d2 ixD (fun _=>some (.str "abcdefghijkl")) (d2 addA (getR 5) (getR 7))))
    (dApp 6 (d2 addA (d2 addA (d2 mulS (fun _=>some (.str "m")) (getR 4)) (getR 8)) (d2 mulS (fun _=>some (.str "m")) (d2 subD (d2 subD (getR 3) (fun _=>some (.int 1))) (getR 4))))))
      (kdF N n r L a g (some (.own (.lst (ws.map .str)) none)) (some (.v (.int k))) x8 x9 x10)=some (.nx (kdF N n r L a g (some (.own (.lst ((ws++[w]).map .str)) none)) (some (.v (.int k))) y8 x9 x10)):=by
  obtain ⟨x1,e1,o1⟩:=okL_m a (by lia)
  obtain ⟨x2,e2,o2⟩:=okL_let (g + k) (by lia)
  obtain ⟨x3,e3,o3⟩:=okL_m (L - 1 - a) (by lia)
  have e:a.toNat + 1 + (L - 1 - a).toNat=L.toNat:=by clear e1 e2 e3 o1 o2 o3 hg hk hw; lia
  have l3:L.toNat≤3:=Int.toNat_le.mpr hL.2
  have l1:1≤L.toNat:=by rw [← e]; exact Nat.le_trans (Nat.le_add_left 1 _) (Nat.le_add_right _ _)
  have b2:a.toNat + 1 + (L - 1 - a).toNat≤100:=Nat.le_trans (Nat.le_of_eq e) (Nat.le_trans l3 (by decide))
  obtain ⟨c1,p1⟩:=okL_cat o1 o2 (Nat.le_trans (Nat.le_add_right _ _) b2)
  obtain ⟨c2,p2⟩:=okL_cat p1 o3 b2
  rw [e] at p2
  have hl:ws.length < 16777216:=Nat.lt_of_le_of_lt hw (by decide)
  refine ⟨x1++x2++x3,some (.v (.str x2)),okL_W p2 ⟨l1,l3⟩,?_⟩
  rw [List.map_append]
  have lm:(ws.map D.str).length=ws.length:=List.length_map ..
  generalize ws.map D.str=M at *
  generalize ("abcdefghijkl":Str)=abc12 at *
  generalize ("m":Str)=em at *
  simp [e1,e2,e3,c1,c2,lm,hl]
theorem kinds_ok (C:Addr) (ns:List Int) (n:Int) (hn:0≤n∧n≤7):∃ ks:List Str,m_q18 C [.v (.lst (ns.map .int)),.v (.int n)]=some (.own (.lst (ks.map .str)) none)∧(ks.length:Int)=n∧∀ k∈ks,okW k:=by
  obtain ⟨x,hx⟩:=at_ok C ns 1 (by decide)
  obtain ⟨r,hr,r0,r1⟩:=spread_ok C x 1207959571 (by decide)
  have hS:=fun c=>spread_ok C c 1618033989 (by decide)
  unfold m_q18 g_q18
  generalize m_q11 C=A at hx ⊢
  generalize m_q24 C=S at hr hS ⊢
  generalize ns.map D.int=N at *
  obtain ⟨L,eL⟩:∃ L,1 + r % 3=L:=⟨_,rfl⟩
  have hL:1≤L∧L≤3:=by lia
  obtain ⟨a,ea⟩:∃ a,r / 3 % L=a:=⟨_,rfl⟩
  have ha:0≤a∧a < L:=by rw [← ea]; exact ⟨Int.emod_nonneg _ (Int.ne_of_gt hL.1),Int.emod_lt_of_pos _ hL.1⟩
  obtain ⟨g,eg⟩:∃ g,r / 9 % 11=g:=⟨_,rfl⟩
  have hg:0≤g∧g≤10:=by lia
  have m3:=modD_int r 3 (by decide)
  have d3:=fdivD_int r 3 (by decide)
  have mL:=modD_int (r / 3) L hL.1
  have d9:=fdivD_int r 9 (by decide)
  have m11:=modD_int (r / 9) 11 (by decide)
  rw [ea] at mL
  rw [eg] at m11
  have s1:∀ G,(dSeq (dSet 2 (callV S (aV (callV A (aB 0 (aV (fun _=>some (.int 1)) (fun _=>some [])))) (aV (fun _=>some (.int 1207959571)) (fun _=>some [])))))
    (dSeq (dSet 3 (d2 addA (fun _=>some (.int 1)) (d2 modD (getR 2) (fun _=>some (.int 3)))))
    (dSeq (dSet 4 (d2 modD (d2 fdivD (getR 2) (fun _=>some (.int 3))) (getR 3)))
    (dSeq (dSet 5 (d2 modD (d2 fdivD (getR 2) (fun _=>some (.int 9))) (fun _=>some (.int 11))))
    (dSeq (dSetO 6 (asL lnil)) G))))) [some (.v (.lst N)),some (.v (.int n)),none,none,none,none,none,none,none,none,none]=G (kdF N n r L a g (some (.own (.lst []) none)) none none none none):=by
    intro G
    simp -implicitDefEqProofs [hx,hr,m3,eL,d3,mL,d9,m11]
  rw [mOf_2]
  have st:startD 11 2 [.v (.lst N),.v (.int n)]=[some (.v (.lst N)),some (.v (.int n)),none,none,none,none,none,none,none,none,none]:=rfl
  rw [st,s1]
  obtain ⟨w0,y8,ow0,e0⟩:=kd_word N n r L a g 0 [] none none none hL ha hg (by decide) (by decide)
  obtain ⟨w1,z8,ow1,e1⟩:=kd_word N n r L a g 1 [w0] y8 none none hL ha hg (by decide) (by simp)
  have f1:dFor (rng1 (fun _=>some (.int 2))) (setV 7) (dSeq (dSet 8 (d2 ixD (fun _=>some (.str "abcdefghijkl")) (d2 addA (getR 5) (getR 7))))
    (dApp 6 (d2 addA (d2 addA (d2 mulS (fun _=>some (.str "m")) (getR 4)) (getR 8)) (d2 mulS (fun _=>some (.str "m")) (d2 subD (d2 subD (getR 3) (fun _=>some (.int 1))) (getR 4)))))) (kdF N n r L a g (some (.own (.lst []) none)) none none none none)
      = some (.nx (kdF N n r L a g (some (.own (.lst ([w0,w1].map .str)) none)) (some (.v (.int 1))) z8 none none)):=by
    refine dFor_nx (ds:=[.int 0,.int 1]) rfl ?_
    rw [forD_cons rfl e0,forD_cons rfl e1]
    rfl
  rw [dSeq_nx f1]
  obtain ⟨w2,ew2,ow2⟩:=okL_m L ⟨Int.le_trans (by decide) hL.1,Int.lt_of_le_of_lt hL.2 (by decide)⟩
  have f2:dApp 6 (d2 mulS (fun _=>some (.str "m")) (getR 3)) (kdF N n r L a g (some (.own (.lst ([w0,w1].map .str)) none)) (some (.v (.int 1))) z8 none none)=some (.nx (kdF N n r L a g (some (.own (.lst ([w0,w1,w2].map .str)) none)) (some (.v (.int 1))) z8 none none)):=by
    generalize ("m":Str)=em at *
    simp [ew2]
  rw [dSeq_nx f2]
  have f3:∃ (ws:List Str) (q8:Option DV),ws.length=3∧(∀ w∈ws,okW w)∧dIf (asB (d2 eqD (d2 modD (d2 fdivD (getR 2) (fun _=>some (.int 396))) (fun _=>some (.int 3))) (fun _=>some (.int 0)))) (dSeq (dSet 8 (d2 ixD (fun _=>some (.str "abcdefghijkl")) (getR 5)))
    (dSetO 6 (asL (lcons (d2 ixD (fun _=>some (.str "abcdefghijkl")) (d2 addA (getR 5) (fun _=>some (.int 1)))) (lcons (d2 addA (getR 8) (fun _=>some (.str "m"))) (lcons (getV 8) lnil)))))) dNx (kdF N n r L a g (some (.own (.lst ([w0,w1,w2].map .str)) none)) (some (.v (.int 1))) z8 none none)
      = some (.nx (kdF N n r L a g (some (.own (.lst (ws.map .str)) none)) (some (.v (.int 1))) q8 none none)):=by
    have d396:=fdivD_int r 396 (by decide)
    have mm:=modD_int (r / 396) 3 (by decide)
    obtain ⟨v0,ev0,ov0⟩:=okL_let g ⟨hg.1,Int.lt_of_le_of_lt hg.2 (by decide)⟩
    obtain ⟨v1,ev1,ov1⟩:=okL_let (g + 1) ⟨Int.le_trans hg.1 (Int.le_add_of_nonneg_right (by decide)),Int.lt_of_le_of_lt (Int.add_le_add_right hg.2 1) (by decide)⟩
    have om:okL 1 "m":=⟨rfl,by decide⟩
    obtain ⟨c1,p1⟩:=okL_cat ov0 om (by decide)
    have ow2':=okL_W ow2 ⟨(Int.le_toNat (Int.le_trans (by decide) hL.1)).mpr hL.1,Int.toNat_le.mpr hL.2⟩
    have ov0':=okL_W ov0 (by decide)
    have ov1':=okL_W ov1 (by decide)
    have p1':=okL_W p1 (by decide)
    by_cases hz:r / 396 % 3=0
    · refine ⟨[v1,v0 ++ "m",v0],some (.v (.str v0)),rfl,?_,?_⟩
      · intro w hw
        simp only [List.mem_cons,List.not_mem_nil,or_false] at hw
        rcases hw with rfl | rfl | rfl
        · exact ov1'
        · exact p1'
        · exact ov0'
      · generalize ("abcdefghijkl":Str)=abc12 at *
        generalize v0 ++ "m"=v0m at *
        generalize ("m":Str)=em at *
        simp [d396,mm,hz,ev0,ev1,c1]
    · refine ⟨[w0,w1,w2],z8,rfl,?_,?_⟩
      · intro w hw
        simp only [List.mem_cons,List.not_mem_nil,or_false] at hw
        rcases hw with rfl | rfl | rfl
        · exact ow0
        · exact ow1
        · exact ow2'
      · simp [d396,mm,hz]
  obtain ⟨ws,q8,hw3,hwo,f3⟩:=f3
  rw [dSeq_nx f3]
  have f4:∃ m:Int,1≤m∧m≤3∧∀ G,(dSeq (dSet 9 (d2 ixD (asO (asL (lcons (fun _=>some (.int 1)) (lcons (fun _=>some (.int 1)) (lcons (fun _=>some (.int 2)) (lcons (fun _=>some (.int 3)) lnil)))))) (d2 modD (d2 fdivD (getR 2) (fun _=>some (.int 99))) (fun _=>some (.int 4)))))
    (dSeq (dSetO 10 (asL lnil)) G)) (kdF N n r L a g (some (.own (.lst (ws.map .str)) none)) (some (.v (.int 1))) q8 none none)=G (kdF N n r L a g (some (.own (.lst (ws.map .str)) none)) (some (.v (.int 1))) q8 (some (.v (.int m))) (some (.own (.lst []) none))):=by
    have d99:=fdivD_int r 99 (by decide)
    have m4:=modD_int (r / 99) 4 (by decide)
    obtain ⟨m,m1,m2,hm⟩:∃ m:Int,1≤m∧m≤3∧ixD (.lst [.int 1,.int 1,.int 2,.int 3]) (.int (r / 99 % 4))=some (.int m):=by
      have h4:=dis4 (x:=r / 99 % 4) ⟨Int.emod_nonneg _ (by decide),Int.emod_lt_of_pos _ (by decide)⟩
      rcases h4 with e | e | e | e <;> rw [e]
      · exact ⟨1,by decide,by decide,rfl⟩
      · exact ⟨1,by decide,by decide,rfl⟩
      · exact ⟨2,by decide,by decide,rfl⟩
      · exact ⟨3,by decide,by decide,rfl⟩
    exact ⟨m,m1,m2,fun G=>by simp [d99,m4,hm]⟩
  obtain ⟨m,m1,m2,f4⟩:=f4
  rw [f4]
  obtain ⟨z,e,ks,y7,rfl,hk,hko⟩:=forD_ix (st:=setV 7) (body:=(dApp 10 (d2 ixD (getR 6) (d2 modD (d2 fdivD (callV S (aV (d2 addA (getR 2) (d2 mulD (getR 7) (getR 7))) (aV (fun _=>some (.int 1618033989)) (fun _=>some [])))) (fun _=>some (.int 7))) (getR 9)))))
    (fun j ρ=>∃ ks y7,ρ=kdF N n r L a g (some (.own (.lst (ws.map .str)) none)) y7 q8 (some (.v (.int m))) (some (.own (.lst (ks.map .str)) none))∧ks.length=j∧∀ k∈ks,okW k) ((rngI n).map .int) 0 (kdF N n r L a g (some (.own (.lst (ws.map .str)) none)) (some (.v (.int 1))) q8 (some (.v (.int m))) (some (.own (.lst []) none))) ⟨[],_,rfl,rfl,fun _ h=>by cases h⟩ (by
      rintro j d _ hj ⟨ks,y7,rfl,hk,hko⟩
      rw [Nat.zero_add] at hk ⊢
      have hjn:j < n.toNat:=by have:=(List.getElem?_eq_some_iff.mp hj).1; rwa [List.length_map,rngI_len] at this
      rw [rngI_at hj]
      obtain ⟨q,hq,q0,q1⟩:=hS (r + (j:Int) * (j:Int))
      have u:=mulD_int (j:Int) (j:Int) (.inl (by lia))
      have d7:=fdivD_int q 7 (by decide)
      have mm:=modD_int (q / 7) m m1
      have i0:0≤q / 7 % m:=Int.emod_nonneg _ (Int.ne_of_gt m1)
      have i1:q / 7 % m < m:=Int.emod_lt_of_pos _ m1
      obtain ⟨w,hw,ew⟩:=atI_map (l:=ws) D.str i0 (by rw [hw3]; exact Int.lt_of_lt_of_le i1 m2)
      have hl:ks.length < 16777216:=by rw [hk]; exact Nat.lt_of_lt_of_le hjn (Nat.le_trans (Int.toNat_le.mpr hn.2) (by decide))
      refine ⟨_,rfl,kdF N n r L a g (some (.own (.lst (ws.map .str)) none)) (some (.v (.int (j:Int)))) q8 (some (.v (.int m))) (some (.own (.lst ((ks++[w]).map .str)) none)),?_,_,_,rfl,by rw [List.length_append,List.length_singleton,hk],fun x hx=>?_⟩
      · rw [List.map_append]
        have lm:(ks.map D.str).length=ks.length:=List.length_map ..
        generalize ks.map D.str=M at *
        generalize ws.map D.str=U at *
        generalize (j:Int)=jj at *
        simp -implicitDefEqProofs [u,hq,d7,mm,ix1,ew,lm,hl]
      · rcases List.mem_append.mp hx with hx | hx
        · exact hko x hx
        · rw [List.mem_singleton.mp hx]; exact hwo w (List.mem_of_getElem? hw))
  rw [Nat.zero_add,List.length_map,rngI_len] at hk
  refine ⟨ks,?_,by rw [hk]; exact Int.toNat_of_nonneg hn.1,hko⟩
  rw [dSeq_nx (dFor_nx (ds:=(rngI n).map .int) (rng1_of rfl ⟨hn.1,Int.le_trans hn.2 (by decide)⟩) e)]
  rfl
theorem okPs {n:Int} {ps:List (Int×Int)} (h:(ps.all fun p=>decide (0≤p.1∧p.1 < n∧0≤p.2∧p.2 < n∧p.1≠p.2))=true):∀ p∈ps,okP n p:=fun p hp=>by
  have c:=of_decide_eq_true (List.all_eq_true.mp h p hp)
  exact c
theorem pairs_ok' (C:Addr) (n f:Int) (hn:n=1∨n=2∨n=3∨n=4∨n=5∨n=6∨n=7) (hf:f=0∨f=1∨f=2∨f=3∨f=4∨f=5∨f=6∨f=7∨f=8):∃ ps:List (Int×Int),m_q21 C [.v (.int n),.v (.int f)]=some (.own (.lst (ps.map dP)) none)∧ps.length≤12∧∀ p∈ps,okP n p:=by
  rcases hf with rfl | rfl | rfl | rfl | rfl | rfl | rfl | rfl | rfl <;> rcases hn with rfl | rfl | rfl | rfl | rfl | rfl | rfl
  · exact ⟨[],rfl,by decide,okPs rfl⟩
  · exact ⟨[],rfl,by decide,okPs rfl⟩
  · exact ⟨[],rfl,by decide,okPs rfl⟩
  · exact ⟨[],rfl,by decide,okPs rfl⟩
  · exact ⟨[],rfl,by decide,okPs rfl⟩
  · exact ⟨[],rfl,by decide,okPs rfl⟩
  · exact ⟨[],rfl,by decide,okPs rfl⟩
  · exact ⟨[],rfl,by decide,okPs rfl⟩
  · exact ⟨[],rfl,by decide,okPs rfl⟩
  · exact ⟨[(0,1),(1,2),(2,0)],rfl,by decide,okPs rfl⟩
  · exact ⟨[(0,1),(1,2),(2,3),(3,0)],rfl,by decide,okPs rfl⟩
  · exact ⟨[(0,1),(1,2),(2,3),(3,4),(4,0)],rfl,by decide,okPs rfl⟩
  · exact ⟨[(0,1),(1,2),(2,3),(3,4),(4,5),(5,0)],rfl,by decide,okPs rfl⟩
  · exact ⟨[(0,1),(1,2),(2,3),(3,4),(4,5),(5,6),(6,0)],rfl,by decide,okPs rfl⟩
  · exact ⟨[],rfl,by decide,okPs rfl⟩
  · exact ⟨[(0,1)],rfl,by decide,okPs rfl⟩
  · exact ⟨[(0,1),(0,2)],rfl,by decide,okPs rfl⟩
  · exact ⟨[(0,1),(0,2),(0,3)],rfl,by decide,okPs rfl⟩
  · exact ⟨[(0,1),(0,2),(0,3),(0,4)],rfl,by decide,okPs rfl⟩
  · exact ⟨[(0,1),(0,2),(0,3),(0,4),(0,5)],rfl,by decide,okPs rfl⟩
  · exact ⟨[(0,1),(0,2),(0,3),(0,4),(0,5),(0,6)],rfl,by decide,okPs rfl⟩
  · exact ⟨[],rfl,by decide,okPs rfl⟩
  · exact ⟨[],rfl,by decide,okPs rfl⟩
  · exact ⟨[],rfl,by decide,okPs rfl⟩
  · exact ⟨[(0,1),(2,3)],rfl,by decide,okPs rfl⟩
  · exact ⟨[(0,1),(2,3)],rfl,by decide,okPs rfl⟩
  · exact ⟨[(0,1),(3,4),(1,2),(4,5),(2,0),(5,3)],rfl,by decide,okPs rfl⟩
  · exact ⟨[(0,1),(3,4),(1,2),(4,5),(2,0),(5,3)],rfl,by decide,okPs rfl⟩
  · exact ⟨[],rfl,by decide,okPs rfl⟩
  · exact ⟨[],rfl,by decide,okPs rfl⟩
  · exact ⟨[],rfl,by decide,okPs rfl⟩
  · exact ⟨[],rfl,by decide,okPs rfl⟩
  · exact ⟨[(0,1),(1,2),(2,3),(3,4),(4,0),(0,2),(1,3),(2,4),(3,0),(4,1)],rfl,by decide,okPs rfl⟩
  · exact ⟨[],rfl,by decide,okPs rfl⟩
  · exact ⟨[],rfl,by decide,okPs rfl⟩
  · exact ⟨[],rfl,by decide,okPs rfl⟩
  · exact ⟨[(0,1)],rfl,by decide,okPs rfl⟩
  · exact ⟨[(0,1),(0,2)],rfl,by decide,okPs rfl⟩
  · exact ⟨[(0,2),(0,3),(1,2),(1,3)],rfl,by decide,okPs rfl⟩
  · exact ⟨[(0,2),(0,3),(0,4),(1,2),(1,3),(1,4)],rfl,by decide,okPs rfl⟩
  · exact ⟨[(0,3),(0,4),(0,5),(1,3),(1,4),(1,5),(2,3),(2,4),(2,5)],rfl,by decide,okPs rfl⟩
  · exact ⟨[(0,3),(0,4),(0,5),(0,6),(1,3),(1,4),(1,5),(1,6),(2,3),(2,4),(2,5),(2,6)],rfl,by decide,okPs rfl⟩
  · exact ⟨[],rfl,by decide,okPs rfl⟩
  · exact ⟨[],rfl,by decide,okPs rfl⟩
  · exact ⟨[],rfl,by decide,okPs rfl⟩
  · exact ⟨[],rfl,by decide,okPs rfl⟩
  · exact ⟨[],rfl,by decide,okPs rfl⟩
  · exact ⟨[],rfl,by decide,okPs rfl⟩
  · exact ⟨[],rfl,by decide,okPs rfl⟩
  · exact ⟨[],rfl,by decide,okPs rfl⟩
  · exact ⟨[],rfl,by decide,okPs rfl⟩
  · exact ⟨[],rfl,by decide,okPs rfl⟩
  · exact ⟨[],rfl,by decide,okPs rfl⟩
  · exact ⟨[],rfl,by decide,okPs rfl⟩
  · exact ⟨[],rfl,by decide,okPs rfl⟩
  · exact ⟨[],rfl,by decide,okPs rfl⟩
  · exact ⟨[],rfl,by decide,okPs rfl⟩
  · exact ⟨[],rfl,by decide,okPs rfl⟩
  · exact ⟨[],rfl,by decide,okPs rfl⟩
  · exact ⟨[],rfl,by decide,okPs rfl⟩
  · exact ⟨[],rfl,by decide,okPs rfl⟩
  · exact ⟨[],rfl,by decide,okPs rfl⟩
  · exact ⟨[],rfl,by decide,okPs rfl⟩
theorem cut12 (ns:List Int):(cutL ns (some 2) (some 14)).length≤12:=by
  show ((ns.drop (min 2 ns.length)).take (min 14 ns.length - min 2 ns.length)).length≤12
  refine Nat.le_trans (List.length_take_le _ _) (Nat.sub_le_of_le_add ?_)
  rcases Nat.le_total 2 ns.length with h | h
  · rw [Nat.min_eq_left h]
    exact Nat.min_le_left 14 _
  · rw [Nat.min_eq_right h]
    exact Nat.le_trans (Nat.min_le_right _ _) (Nat.le_add_left _ 12)
theorem ab_ne {a g n b:Int} (hn:1 < n) (a0:0≤a) (a1:a < n) (g0:0≤g) (g1:g < n - 1) (hb:(a + 1 + g) % n=b):a≠b:=by
  by_cases h:a + 1 + g < n
  · rw [Int.emod_eq_of_lt (by lia) h] at hb; lia
  · have:(a + 1 + g) % n=a + 1 + g - n:=by
      rw [← Int.sub_emod_right (a + 1 + g) n,Int.emod_eq_of_lt (by lia) (by lia)]
    lia
noncomputable abbrev dwC:DF→Option Bool:=(andT (asB (d2 gtI (getR 1) (fun _=>some (.int 1)))) (asB (d2 gtI (d2 modD (getR 5) (fun _=>some (.int 4))) (fun _=>some (.int 0)))))
noncomputable abbrev dwA:DF→Option RES:=(dSeq (dSet 6 (d2 modD (d2 fdivD (getR 5) (fun _=>some (.int 4))) (getR 1)))
    (dSeq (dSet 7 (d2 modD (d2 addA (d2 addA (getR 6) (fun _=>some (.int 1))) (d2 modD (d2 fdivD (getR 5) (fun _=>some (.int 28))) (d2 subD (getR 1) (fun _=>some (.int 1))))) (getR 1)))
    (dSeq (dSet 8 (d2 modD (d2 fdivD (getR 5) (fun _=>some (.int 168))) (fun _=>some (.int 2))))
    (dSeq (dIf (asB (d2 eqD (d2 modD (d2 fdivD (getR 5) (fun _=>some (.int 336))) (fun _=>some (.int 2))) (fun _=>some (.int 0)))) (dSet 8 (d2 modD (d2 addA (getR 4) (getR 3)) (d2 powD (fun _=>some (.int 10)) (fun _=>some (.int 30))))) dNx)
    (dApp 2 (asT (lcons (getV 6) (lcons (getV 7) (lcons (getV 8) (lcons (d2 eqD (d2 modD (d2 fdivD (getR 5) (fun _=>some (.int 672))) (fun _=>some (.int 2))) (fun _=>some (.int 1))) lnil))))))))))
noncomputable abbrev dwF (N:List D) (n:Int) (ts:List T4) (x3 x4 x5 x6 x7 x8:Option DV):DF:=[some (.v (.lst N)),some (.v (.int n)),some (.own (.lst (ts.map dT4)) none),x3,x4,x5,x6,x7,x8]
theorem drawn_step (S:List DV→Option DV) (N:List D) (n k c r:Int) (ts:List T4) (x5 x6 x7 x8:Option DV) (hn:1≤n∧n≤7) (hl:ts.length≤12) (ht:∀ t∈ts,okT n t) (hr:0≤r) (hS:S [.v (.int c),.v (.int 1530421987)]=some (.v (.int r))) :
    ∃ ts' y5 y6 y7 y8,(dSeq (dSet 5 (callV S (aB 4 (aV (fun _=>some (.int 1530421987)) (fun _=>some []))))) (dIf dwC dwA dNx)) (dwF N n ts (some (.v (.int k))) (some (.v (.int c))) x5 x6 x7 x8)=some (.nx (dwF N n ts' (some (.v (.int k))) (some (.v (.int c))) y5 y6 y7 y8))∧ts'.length≤ts.length + 1∧∀ t∈ts',okT n t:=by
  have s1:∀ G,(dSeq (dSet 5 (callV S (aB 4 (aV (fun _=>some (.int 1530421987)) (fun _=>some []))))) G) (dwF N n ts (some (.v (.int k))) (some (.v (.int c))) x5 x6 x7 x8)=G (dwF N n ts (some (.v (.int k))) (some (.v (.int c))) (some (.v (.int r))) x6 x7 x8):=by
    intro G
    simp [hS]
  rw [s1,dIf_ap]
  have hc:dwC (dwF N n ts (some (.v (.int k))) (some (.v (.int c))) (some (.v (.int r))) x6 x7 x8)=some (decide (1 < n)&&decide (0 < r % 4)):=by
    have m4:=modD_int r 4 (by decide)
    by_cases a:1 < n <;> by_cases b:0 < r % 4 <;> simp [m4,a,b]
  rw [hc,Option.bind_some]
  by_cases hq:(decide (1 < n)&&decide (0 < r % 4))=true
  · rw [if_pos hq]
    simp only [Bool.and_eq_true,decide_eq_true_eq] at hq
    have n1:=hq.1
    have d4:=fdivD_int r 4 (by decide)
    have d28:=fdivD_int r 28 (by decide)
    have d168:=fdivD_int r 168 (by decide)
    have d336:=fdivD_int r 336 (by decide)
    have d672:=fdivD_int r 672 (by decide)
    have mn:=fun x=>modD_int x n (by lia)
    have mn1:=fun x=>modD_int x (n - 1) (by lia)
    have m2:=fun x=>modD_int x 2 (by decide)
    have mB:=modD_int (c + k) 1000000000000000000000000000000 (by decide)
    generalize ha:r / 4 % n=a
    have g0:0≤r / 28 % (n - 1):=Int.emod_nonneg _ (by lia)
    have g1:r / 28 % (n - 1) < n - 1:=Int.emod_lt_of_pos _ (by lia)
    generalize hb:(a + 1 + r / 28 % (n - 1)) % n=b
    have a0:0≤a:=by rw [← ha]; exact Int.emod_nonneg _ (by lia)
    have a1:a < n:=by rw [← ha]; exact Int.emod_lt_of_pos _ (by lia)
    have b0:0≤b:=by rw [← hb]; exact Int.emod_nonneg _ (by lia)
    have b1:b < n:=by rw [← hb]; exact Int.emod_lt_of_pos _ (by lia)
    have ab:=ab_ne n1 a0 a1 g0 g1 hb
    have k0:0≤r / 168 % 2∧r / 168 % 2 < 2:=⟨Int.emod_nonneg _ (by decide),Int.emod_lt_of_pos _ (by decide)⟩
    have B0:0≤(c + k) % 1000000000000000000000000000000:=Int.emod_nonneg _ (by decide)
    have B1:(c + k) % 1000000000000000000000000000000 < 1000000000000000000000000000000:=Int.emod_lt_of_pos _ (by decide)
    have hlen:ts.length < 16777216:=by lia
    obtain ⟨K,K0,K1,hK⟩:∃ K:Int,0≤K∧K < 1000000000000000000000000000000∧(if r / 336 % 2=0 then (c + k) % 1000000000000000000000000000000 else r / 168 % 2)=K:=by
      split
      · exact ⟨_,B0,B1,rfl⟩
      · exact ⟨_,k0.1,by lia,rfl⟩
    refine ⟨ts++[(a,b,K,decide (r / 672 % 2=1))],some (.v (.int r)),some (.v (.int a)),some (.v (.int b)),some (.v (.int K)),?_,Nat.le_of_eq (by rw [List.length_append,List.length_singleton]),?_⟩
    · have lm:(ts.map dT4).length=ts.length:=List.length_map ..
      have dt:dT4 (a,b,K,decide (r / 672 % 2=1))=.tup [.int a,.int b,.int K,.bl (decide (r / 672 % 2=1))]:=rfl
      show dwA [some (.v (.lst N)),some (.v (.int n)),some (.own (.lst (ts.map dT4)) none),some (.v (.int k)),some (.v (.int c)),some (.v (.int r)),x6,x7,x8]=some (.nx [some (.v (.lst N)),some (.v (.int n)),some (.own (.lst ((ts++[(a,b,K,decide (r / 672 % 2=1))]).map dT4)) none),_,_,_,_,_,_])
      rw [List.map_append,List.map_singleton,dt]
      generalize ts.map dT4=M at *
      by_cases h3:r / 336 % 2=0
      · rw [if_pos h3] at hK
        simp [dwA,d4,d28,d168,d336,d672,mn,mn1,m2,mB,ha,hb,h3,hK,lm,hlen]
      · rw [if_neg h3] at hK
        simp [dwA,d4,d28,d168,d336,d672,mn,mn1,m2,mB,ha,hb,h3,hK,lm,hlen]
    · intro u hu
      rcases List.mem_append.mp hu with hu | hu
      · exact ht u hu
      · rw [List.mem_singleton.mp hu]; exact ⟨a0,a1,b0,b1,ab,K0,K1⟩
  · rw [if_neg hq]
    exact ⟨ts,_,_,_,_,rfl,Nat.le_succ _,ht⟩
theorem drawn_ok (C:Addr) (ns:List Int) (n:Int) (hn:1≤n∧n≤7):∃ ts:List T4,m_q14 C [.v (.lst (ns.map .int)),.v (.int n)]=some (.own (.lst (ts.map dT4)) none)∧ts.length≤12∧∀ t∈ts,okT n t:=by
  have hS:=fun c=>spread_ok C c 1530421987 (by decide)
  unfold m_q14 g_q14
  generalize m_q24 C=S at hS ⊢
  have hcut:cutL (ns.map D.int) (some 2) (some 14)=(cutL ns (some 2) (some 14)).map D.int:=cutL_map _ _ _ _
  have h12:=cut12 ns
  generalize cutL ns (some 2) (some 14)=cs at hcut h12
  have hel:(enumL (cs.map D.int)).length=cs.length:=by unfold enumL; rw [List.length_map,List.length_zipIdx,List.length_map]
  obtain ⟨z,e,ts,y3,y4,y5,y6,y7,y8,rfl,hl,ht⟩:=forD_ix (st:=setT [3,4]) (body:=(dSeq (dSet 5 (callV S (aB 4 (aV (fun _=>some (.int 1530421987)) (fun _=>some []))))) (dIf dwC dwA dNx)))
    (fun j ρ=>∃ ts y3 y4 y5 y6 y7 y8,ρ=dwF (ns.map .int) n ts y3 y4 y5 y6 y7 y8∧ts.length≤j∧∀ t∈ts,okT n t) (enumL (cs.map D.int)) 0 (dwF (ns.map .int) n [] none none none none none none) ⟨[],_,_,_,_,_,_,rfl,Nat.le_refl _,fun _ h=>by cases h⟩ (by
      rintro j d _ hj ⟨ts,y3,y4,y5,y6,y7,y8,rfl,hl,ht⟩
      rw [Nat.zero_add] at hl ⊢
      have hjn:j < cs.length:=by have:=(List.getElem?_eq_some_iff.mp hj).1; rwa [hel] at this
      obtain ⟨d0,h0,rfl⟩:=enumL_get hj
      rw [List.getElem?_map] at h0
      cases hc:cs[j]? with
      | none=>rw [hc] at h0; cases h0
      | some c=>
      rw [hc] at h0
      cases h0
      obtain ⟨r,hr,r0,_⟩:=hS c
      obtain ⟨ts',z5,z6,z7,z8,e,l',o'⟩:=drawn_step S (ns.map .int) n j c r ts y5 y6 y7 y8 hn (by lia) ht r0 hr
      exact ⟨_,rfl,_,e,ts',_,_,_,_,_,_,rfl,by lia,o'⟩)
  rw [Nat.zero_add,hel] at hl
  refine ⟨ts,?_,by lia,ht⟩
  rw [mOf_2]
  have s0:dSetO 2 (asL lnil) (startD 9 2 [.v (.lst (ns.map .int)),.v (.int n)])=some (.nx (dwF (ns.map .int) n [] none none none none none none)):=rfl
  have it:enumOf (asO (asL (slL (getR 0) (bI (fun _=>some (.int 2))) (bI (fun _=>some (.int 14)))))) (dwF (ns.map .int) n [] none none none none none none)=some (enumL (cs.map D.int)):=by
    have:asO (asL (slL (getR 0) (bI (fun _=>some (.int 2))) (bI (fun _=>some (.int 14))))) (dwF (ns.map .int) n [] none none none none none none)=some (.lst (cs.map .int)):=by
      rw [← hcut]
      rfl
    unfold enumOf
    rw [this]
  rw [dSeq_nx s0,dSeq_nx (dFor_nx it e)]
  rfl
noncomputable def ox (out:List Int) (i:Int):Int:=(out[i.toNat]?).getD 0
theorem ox_in {n:Int} {out:List Int} (hn:1≤n) (p:out.Perm (rngI n)) {i:Int} (h:0≤i∧i < n):atI (out.map D.int) i=some (.int (ox out i))∧0≤ox out i∧ox out i < n:=by
  obtain ⟨hl,_,hm⟩:=perm_in hn p
  obtain ⟨x,hx,e⟩:=atI_map (l:=out) D.int h.1 (by rw [hl]; exact h.2)
  have:ox out i=x:=by unfold ox; rw [hx]; rfl
  rw [this]
  exact ⟨e,hm x (List.mem_of_getElem? hx)⟩
theorem ox_ne {n:Int} {out:List Int} (hn:1≤n) (p:out.Perm (rngI n)) {i j:Int} (hi:0≤i∧i < n) (hj:0≤j∧j < n) (h:i≠j):ox out i≠ox out j:=by
  obtain ⟨hl,hd,_⟩:=perm_in hn p
  obtain ⟨x,hx,_⟩:=atI_map (l:=out) D.int hi.1 (by rw [hl]; exact hi.2)
  obtain ⟨y,hy,_⟩:=atI_map (l:=out) D.int hj.1 (by rw [hl]; exact hj.2)
  unfold ox
  rw [hx,hy]
  exact at_ne hd hx hy fun z=>h (by rw [← Int.toNat_of_nonneg hi.1,z,Int.toNat_of_nonneg hj.1])
noncomputable def oxT (out:List Int) (t:T4):T4:=(ox out t.1,ox out t.2.1,t.2.2.1,t.2.2.2)
theorem oxT_ok {n:Int} {out:List Int} (hn:1≤n) (p:out.Perm (rngI n)) {t:T4} (h:okT n t):okT n (oxT out t):=by
  obtain ⟨a0,a1,b0,b1,ab,k⟩:=h
  have h1:=ox_in hn p ⟨a0,a1⟩
  have h2:=ox_in hn p ⟨b0,b1⟩
  exact ⟨h1.2.1,h1.2.2,h2.2.1,h2.2.2,ox_ne hn p ⟨a0,a1⟩ ⟨b0,b1⟩ ab,k⟩
noncomputable abbrev oxE:DF→Option D:=(asT (lcons (d2 ixD (getR 1) (d2 ixD (getR 0) (fun _=>some (.int 0)))) (lcons (d2 ixD (getR 1) (d2 ixD (getR 0) (fun _=>some (.int 1)))) (lcons (d2 ixD (getR 0) (fun _=>some (.int 2))) (lcons (d2 ixD (getR 0) (fun _=>some (.int 3))) lnil)))))
theorem comp_ox {n:Int} {out:List Int} (hn:1≤n) (p:out.Perm (rngI n)) (ts:List T4) (ht:∀ t∈ts,okT n t):mapD (setV 0) dYes oxE [none,some (.v (.lst (out.map .int)))] (ts.map dT4)=some ((ts.map (oxT out)).map dT4):=by
  rw [List.map_map]
  refine mapD_map dT4 _ ts fun t h=>?_
  obtain ⟨a0,a1,b0,b1,_⟩:=ht t h
  have h1:=(ox_in hn p ⟨a0,a1⟩).1
  have h2:=(ox_in hn p ⟨b0,b1⟩).1
  have e0:ixD (dT4 t) (.int 0)=some (.int t.1):=rfl
  have e1:ixD (dT4 t) (.int 1)=some (.int t.2.1):=rfl
  have e2:ixD (dT4 t) (.int 2)=some (.int t.2.2.1):=rfl
  have e3:ixD (dT4 t) (.int 3)=some (.bl t.2.2.2):=rfl
  have ef:(dT4 ∘ oxT out) t=.tup [.int (ox out t.1),.int (ox out t.2.1),.int t.2.2.1,.bl t.2.2.2]:=rfl
  refine ⟨[some (.v (dT4 t)),some (.v (.lst (out.map .int)))],rfl,rfl,?_⟩
  rw [ef]
  generalize dT4 t=T at *
  generalize out.map D.int=O at *
  simp [e0,e1,e2,e3,ix1,h1,h2]
noncomputable abbrev flF (N:List D) (q kd:Int) (o:Bool) (x5 x6 x7 x8 x9:Option DV):DF:=[some (.v (.lst N)),some (.v (.int q)),some (.v (.int kd)),some (.v (.bl o)),some (.v (.int 7)),x5,x6,x7,x8,x9]
theorem false_end (Or Kd:List DV→Option DV) (N:List D) (q kd n:Int) (o:Bool) (ts:List T4) (x7:Option DV) (out:List Int) (k0:Str) (hn:1≤n∧n≤7) (hl:ts.length≤12) (ht:∀ t∈ts,okT n t) (p:out.Perm (rngI n)) (hO:Or [.v (.lst N),.v (.int n),.v (.int 742938285)]=some (.own (.lst (out.map .int)) none))
    (hK:Kd [.v (.lst N),.v (.int 1)]=some (.own (.lst [.str k0]) none)) (ok:okW k0):∃ (ks:List Str) (us:List T4) (z:DF),okK n ks∧okS n us ∧
    (dSeq (dSet 8 (callV Or (aB 0 (aV (getV 6) (aV (fun _=>some (.int 742938285)) (fun _=>some []))))))
    (dSeq (dSet 9 (asO (asL (dComp 1 [0] (rng1 (getR 6)) (setV 0) dYes (d2 ixD (callV Kd (aB 1 (aV (fun _=>some (.int 1)) (fun _=>some [])))) (fun _=>some (.int 0)))))))
    (dRet (asT (lcons (getV 9) (lcons (asO (asL (dComp 1 [8] (borOf 5) (setV 0) dYes oxE))) lnil))))))
      (flF N q kd o (some (.v (.lst (ts.map dT4)))) (some (.v (.int n))) x7 none none)=some (.rt (.v (.tup [.lst (ks.map .str),.lst (us.map dT4)])) z):=by
  have c1:=comp_ox hn.1 p ts ht
  have c2:mapD (setV 0) dYes (d2 ixD (callV Kd (aB 1 (aV (fun _=>some (.int 1)) (fun _=>some [])))) (fun _=>some (.int 0))) [none,some (.v (.lst N))] ((rngI n).map .int)=some (((rngI n).map fun _=>k0).map .str):=by
    rw [List.map_map]
    refine mapD_map D.int _ (rngI n) fun x _=>⟨[some (.v (.int x)),some (.v (.lst N))],rfl,rfl,?_⟩
    have e0:ixD (.lst [.str k0]) (.int 0)=some (.str k0):=rfl
    simp [hK,e0]
  have l1:(ts.map dT4).length≤16777216:=by rw [List.length_map]; lia
  have l2:((rngI n).map D.int).length≤16777216:=by rw [List.length_map,rngI_len]; lia
  have hr:∀ x8 x9,rng1 (getR 6) (flF N q kd o (some (.v (.lst (ts.map dT4)))) (some (.v (.int n))) x7 x8 x9)=some ((rngI n).map .int):=fun _ _=>rng1_of rfl ⟨by lia,by lia⟩
  refine ⟨(rngI n).map fun _=>k0,ts.map (oxT out),flF N q kd o (some (.v (.lst (ts.map dT4)))) (some (.v (.int n))) x7 (some (.v (.lst (out.map .int)))) (some (.v (.lst (((rngI n).map fun _=>k0).map .str)))),⟨by rw [List.length_map,rngI_len]; lia,fun k hk=>?_⟩,⟨by rw [List.length_map]; exact hl,fun t h=>?_⟩,?_⟩
  · obtain ⟨_,_,rfl⟩:=List.mem_map.mp hk
    exact ok
  · obtain ⟨u,hu,rfl⟩:=List.mem_map.mp h
    exact oxT_ok hn.1 p (ht u hu)
  · generalize (d2 ixD (callV Kd (aB 1 (aV (fun _=>some (.int 1)) (fun _=>some [])))) (fun _=>some (.int 0)))=E2 at *
    generalize hE:oxE=E1 at *
    generalize ((rngI n).map fun _=>k0).map D.str=A at *
    generalize (ts.map (oxT out)).map dT4=B at *
    generalize ts.map dT4=T at *
    generalize out.map D.int=O at *
    generalize (rngI n).map D.int=R at *
    simp [hO,dComp_ap,hr,l1,l2,c1,c2]
theorem addA_T (a b:List T4) (h:a.length + b.length≤1000):addA (.lst (a.map dT4)) (.lst (b.map dT4))=some (.lst ((a++b).map dT4)):=by
  rw [addA_lst _ _ (by rw [List.length_map,List.length_map]; lia),List.map_append]
noncomputable abbrev flI:DF→Option RES:=(dIf (andT (asB (d2 gtI (getR 4) (fun _=>some (.int 6)))) (asB (d2 eqD (d2 modD (getR 1) (fun _=>some (.int 2))) (fun _=>some (.int 0))))) (dSeq (dSet 5 (asO (asL (dComp 1 [2,3] (rng1 (fun _=>some (.int 3))) (setV 0) dYes (asT (lcons (getV 0) (lcons (d2 modD (d2 addA (getR 0) (fun _=>some (.int 1))) (fun _=>some (.int 3))) (lcons (getV 1) (lcons (getV 2) lnil)))))))))
    (dSeq (dSet 5 (d2 addA (getR 5) (asO (asL (dComp 1 [2,3] (rng1 (fun _=>some (.int 4))) (setV 0) dYes (asT (lcons (d2 addA (fun _=>some (.int 3)) (getR 0)) (lcons (d2 addA (fun _=>some (.int 3)) (d2 modD (d2 addA (getR 0) (fun _=>some (.int 1))) (fun _=>some (.int 4)))) (lcons (getV 1) (lcons (getV 2) lnil))))))))))
    (dSet 6 (fun _=>some (.int 7))))) (dSeq (dSet 7 (d2 modD (d2 addA (getR 2) (fun _=>some (.int 1))) (d2 powD (fun _=>some (.int 10)) (fun _=>some (.int 30)))))
    (dSet 5 (d2 addA (getR 5) (asO (asL (lcons (asT (lcons (fun _=>some (.int 0)) (lcons (fun _=>some (.int 2)) (lcons (getV 7) (lcons (fun _=>some (.bl false)) lnil))))) (lcons (asT (lcons (fun _=>some (.int 3)) (lcons (fun _=>some (.int 5)) (lcons (getV 7) (lcons (fun _=>some (.bl false)) lnil))))) (lcons (asT (lcons (fun _=>some (.int 1)) (lcons (fun _=>some (.int 4)) (lcons (getV 7) (lcons (fun _=>some (.bl false)) lnil))))) lnil)))))))))
theorem okT_lit {n a b k:Int} {o:Bool} (h:0≤a∧a < n∧0≤b∧b < n∧a≠b) (hk:0≤k∧k < 1000000000000000000000000000000):okT n (a,b,k,o):=⟨h.1,h.2.1,h.2.2.1,h.2.2.2.1,h.2.2.2.2,hk.1,hk.2⟩
theorem mOf_5 {n:Nat} {g:DF→Option RES} {a b c d e:DV}:mOf n 5 g [a,b,c,d,e]=retOf (g (startD n 5 [a,b,c,d,e])):=rfl
theorem false_ok (C:Addr) (ns:List Int) (q kd:Int) (o:Bool) (hk:0≤kd∧kd < 1000000000000000000000000000000):∃ (n:Int) (ks:List Str) (us:List T4),(1≤n∧n≤7)∧okK n ks∧okS n us∧m_q15 C [.v (.lst (ns.map .int)),.v (.int q),.v (.int kd),.v (.bl o),.v (.int 7)]=some (.v (.tup [.lst (ks.map .str),.lst (us.map dT4)])):=by
  obtain ⟨o6,hO6,p6⟩:=order_ok' C ns 6 742938285 (by decide) (by decide)
  obtain ⟨o7,hO7,p7⟩:=order_ok' C ns 7 742938285 (by decide) (by decide)
  obtain ⟨k1,hK,kl,ko⟩:=kinds_ok C ns 1 (by decide)
  obtain ⟨k0,rfl⟩:∃ k0,k1=[k0]:=List.length_eq_one_iff.mp (by lia)
  have ok:=ko k0 List.mem_cons_self
  have hK:m_q18 C [.v (.lst (ns.map .int)),.v (.int 1)]=some (.own (.lst [.str k0]) none):=hK
  unfold m_q15 g_q15
  generalize m_q20 C=Or at hO6 hO7 ⊢
  generalize m_q18 C=Kd at hK ⊢
  generalize ns.map D.int=N at *
  have m2:=modD_int q 2 (by decide)
  have mB:=modD_int (kd + 1) 1000000000000000000000000000000 (by decide)
  let R6:List T4:=[(0,1,kd,o),(1,2,kd,o),(2,3,kd,o),(3,4,kd,o),(4,5,kd,o),(5,0,kd,o)]
  let R7:List T4:=[(0,1,kd,o),(1,2,kd,o),(2,0,kd,o),(3,4,kd,o),(4,5,kd,o),(5,6,kd,o),(6,3,kd,o)]
  have f0:0≤(kd + 1) % 1000000000000000000000000000000:=Int.emod_nonneg _ (by decide)
  have f1:(kd + 1) % 1000000000000000000000000000000 < 1000000000000000000000000000000:=Int.emod_lt_of_pos _ (by decide)
  generalize hF:(kd + 1) % 1000000000000000000000000000000=fr at *
  let X3:List T4:=[(0,2,fr,false),(3,5,fr,false),(1,4,fr,false)]
  have s1:∀ G,(dSeq (dSet 5 (asO (asL (dComp 1 [2,3] (rng1 (fun _=>some (.int 6))) (setV 0) dYes (asT (lcons (getV 0) (lcons (d2 modD (d2 addA (getR 0) (fun _=>some (.int 1))) (fun _=>some (.int 6))) (lcons (getV 1) (lcons (getV 2) lnil)))))))))
    (dSeq (dSet 6 (fun _=>some (.int 6))) G)) (flF N q kd o none none none none none)=G (flF N q kd o (some (.v (.lst (R6.map dT4)))) (some (.v (.int 6))) none none none):=fun G=>rfl
  rw [mOf_5,show startD 10 5 [.v (.lst N),.v (.int q),.v (.int kd),.v (.bl o),.v (.int 7)]=flF N q kd o none none none none none from rfl,s1]
  by_cases hq:q % 2=0
  · have s2:flI (flF N q kd o (some (.v (.lst (R6.map dT4)))) (some (.v (.int 6))) none none none)
        = some (.nx (flF N q kd o (some (.v (.lst (R7.map dT4)))) (some (.v (.int 7))) none none none)):=by
      have hc:andT (asB (d2 gtI (getR 4) (fun _=>some (.int 6)))) (asB (d2 eqD (d2 modD (getR 1) (fun _=>some (.int 2))) (fun _=>some (.int 0)))) (flF N q kd o (some (.v (.lst (R6.map dT4)))) (some (.v (.int 6))) none none none)=some true:=by
        simp [m2,hq]
      unfold flI
      rw [dIf_ap,hc,Option.bind_some,if_pos rfl]
      rfl
    rw [dSeq_nx s2]
    obtain ⟨ks,us,z,h1,h2,e⟩:=false_end Or Kd N q kd 7 o R7 none o7 k0 (by decide) (by show 7≤12; decide) (fun t ht=>by
      simp only [R7,List.mem_cons,List.not_mem_nil,or_false] at ht
      rcases ht with rfl | rfl | rfl | rfl | rfl | rfl | rfl <;> exact okT_lit (by decide) hk) p7 hO7 hK ok
    refine ⟨7,ks,us,by decide,h1,h2,?_⟩
    rw [e]
    rfl
  · have s2:flI (flF N q kd o (some (.v (.lst (R6.map dT4)))) (some (.v (.int 6))) none none none)
        = some (.nx (flF N q kd o (some (.v (.lst ((R6++X3).map dT4)))) (some (.v (.int 6))) (some (.v (.int fr))) none none)):=by
      have hc:andT (asB (d2 gtI (getR 4) (fun _=>some (.int 6)))) (asB (d2 eqD (d2 modD (getR 1) (fun _=>some (.int 2))) (fun _=>some (.int 0)))) (flF N q kd o (some (.v (.lst (R6.map dT4)))) (some (.v (.int 6))) none none none)=some false:=by
        simp [m2,hq]
      unfold flI
      rw [dIf_ap,hc,Option.bind_some,if_neg Bool.false_ne_true]
      have t1:dSet 7 (d2 modD (d2 addA (getR 2) (fun _=>some (.int 1))) (d2 powD (fun _=>some (.int 10)) (fun _=>some (.int 30)))) (flF N q kd o (some (.v (.lst (R6.map dT4)))) (some (.v (.int 6))) none none none)=some (.nx (flF N q kd o (some (.v (.lst (R6.map dT4)))) (some (.v (.int 6))) (some (.v (.int fr))) none none)):=by
        generalize R6.map dT4=U
        simp [mB]
      rw [dSeq_nx t1]
      rfl
    rw [dSeq_nx s2]
    obtain ⟨ks,us,z,h1,h2,e⟩:=false_end Or Kd N q kd 6 o (R6++X3) (some (.v (.int fr))) o6 k0 (by decide) (by show 9≤12; decide) (fun t ht=>by
      simp only [R6,X3,List.cons_append,List.nil_append,List.mem_cons,List.not_mem_nil,or_false] at ht
      rcases ht with rfl | rfl | rfl | rfl | rfl | rfl | rfl | rfl | rfl <;> first | exact okT_lit (by decide) hk | exact okT_lit (by decide) ⟨f0,f1⟩) p6 hO6 hK ok
    refine ⟨6,ks,us,by decide,h1,h2,?_⟩
    rw [e]
    rfl
noncomputable abbrev wxF (N:List D) (r n f K:Int) (o:Bool) (x8 x9 x10:Option DV):DF:=[some (.v (.lst N)),some (.v (.int 7)),some (.v (.int 7)),some (.v (.int r)),some (.v (.int n)),some (.v (.int f)),some (.v (.int K)),some (.v (.bl o)),x8,x9,x10]
theorem wx_a {A S Fo:List DV→Option DV} {N:List D} {x r n f K:Int} (hx:A [.v (.lst N),.v (.int 0)]=some (.v (.int x))) (hr:S [.v (.int x),.v (.int 1873046521)]=some (.v (.int r))) (m7:modD (.int r) (.int 7)=some (.int (r % 7))) (en:1 + r % 7=n) (d7:fdivD (.int r) (.int 7)=some (.int (r / 7))) (m9:modD (.int (r / 7)) (.int 9)=some (.int f))
    (hF:Fo [.v (.lst N),.v (.int 1000000000000000000000000000000)]=some (.v (.int K))) (d56:fdivD (.int r) (.int 56)=some (.int (r / 56))) (m2:modD (.int (r / 56)) (.int 2)=some (.int (r / 56 % 2))) (G:DF→Option RES) :
    (dSeq (dSet 3 (callV S (aV (callV A (aB 0 (aV (fun _=>some (.int 0)) (fun _=>some [])))) (aV (fun _=>some (.int 1873046521)) (fun _=>some [])))))
    (dSeq (dSet 4 (d2 addA (fun _=>some (.int 1)) (d2 modD (getR 3) (getR 1))))
    (dSeq (dSet 5 (d2 modD (d2 fdivD (getR 3) (fun _=>some (.int 7))) (fun _=>some (.int 9))))
    (dSeq (dSet 6 (callV Fo (aB 0 (aV (d2 powD (fun _=>some (.int 10)) (fun _=>some (.int 30))) (fun _=>some [])))))
    (dSeq (dSet 7 (d2 eqD (d2 modD (d2 fdivD (getR 3) (fun _=>some (.int 56))) (fun _=>some (.int 2))) (fun _=>some (.int 1))))
    G))))) [some (.v (.lst N)),some (.v (.int 7)),some (.v (.int 7)),none,none,none,none,none,none,none,none]=G (wxF N r n f K (decide (r / 56 % 2=1)) none none none):=by
  simp [hx,hr,m7,en,d7,m9,hF,d56,m2]
theorem wx_b {N:List D} {r n f K:Int} {o:Bool} {ks:List D} {ts ds:List T4} {Dr:List DV→Option DV} {x9:Option DV} (hn:1≤n∧n≤7) (ht:okS n ts) (hd:okS n ds) (hD:Dr [.v (.lst N),.v (.int n)]=some (.own (.lst (ds.map dT4)) none)):∃ (us:List T4) (z:DF),okS n us ∧
    (dSeq (dIf (asB (d2 eqD (d2 modD (d2 fdivD (getR 3) (fun _=>some (.int 112))) (fun _=>some (.int 3))) (fun _=>some (.int 0)))) (dSet 10 (asO (asL (slL (d2 addA (getR 10) (callV Dr (aB 0 (aB 4 (fun _=>some []))))) bNo (bI (fun _=>some (.int 12))))))) dNx)
    (dSeq (dIf (andT (asB (d2 eqD (d2 modD (d2 fdivD (getR 3) (fun _=>some (.int 112))) (fun _=>some (.int 3))) (fun _=>some (.int 1)))) (asB (d2 ltd (d1 lenD (getN 10)) (fun _=>some (.int 7))))) (dSet 10 (d2 addA (getR 10) (getR 10))) dNx)
    (dRet (asT (lcons (getV 8) (lcons (getV 10) lnil)))))) (wxF N r n f K o (some (.v (.lst ks))) x9 (some (.v (.lst (ts.map dT4)))))=some (.rt (.v (.tup [.lst ks,.lst (us.map dT4)])) z):=by
  have d112:=fdivD_int r 112 (by decide)
  have m3:=modD_int (r / 112) 3 (by decide)
  have h1:∃ us:List T4,okS n us∧(dIf (asB (d2 eqD (d2 modD (d2 fdivD (getR 3) (fun _=>some (.int 112))) (fun _=>some (.int 3))) (fun _=>some (.int 0)))) (dSet 10 (asO (asL (slL (d2 addA (getR 10) (callV Dr (aB 0 (aB 4 (fun _=>some []))))) bNo (bI (fun _=>some (.int 12))))))) dNx) (wxF N r n f K o (some (.v (.lst ks))) x9 (some (.v (.lst (ts.map dT4)))))=some (.nx (wxF N r n f K o (some (.v (.lst ks))) x9 (some (.v (.lst (us.map dT4))))))∧(r / 112 % 3=1→us=ts):=by
    by_cases h:r / 112 % 3=0
    · have ha:=addA_T ts ds (by have:=ht.1; have:=hd.1; lia)
      have hc:cutL ((ts++ds).map dT4) none (some 12)=((ts++ds).take 12).map dT4:=by rw [cutL_map,cutL_to _ (by decide)]; rfl
      refine ⟨(ts++ds).take 12,⟨by rw [List.length_take]; lia,fun t h=>?_⟩,?_,fun z=>by lia⟩
      · rcases List.mem_append.mp (List.mem_of_mem_take h) with h | h
        · exact ht.2 t h
        · exact hd.2 t h
      · generalize ((ts++ds).take 12).map dT4=W at *
        generalize (ts++ds).map dT4=V at *
        generalize ds.map dT4=Y at *
        generalize ts.map dT4=X at *
        simp [d112,m3,h,hD,ha,slL_ap,hc]
    · refine ⟨ts,ht,?_,fun _=>rfl⟩
      generalize ts.map dT4=X at *
      simp [d112,m3,h]
  obtain ⟨us,hu,e1,e1'⟩:=h1
  rw [dSeq_nx e1]
  have h2:∃ vs:List T4,okS n vs∧(dIf (andT (asB (d2 eqD (d2 modD (d2 fdivD (getR 3) (fun _=>some (.int 112))) (fun _=>some (.int 3))) (fun _=>some (.int 1)))) (asB (d2 ltd (d1 lenD (getN 10)) (fun _=>some (.int 7))))) (dSet 10 (d2 addA (getR 10) (getR 10))) dNx) (wxF N r n f K o (some (.v (.lst ks))) x9 (some (.v (.lst (us.map dT4)))))=some (.nx (wxF N r n f K o (some (.v (.lst ks))) x9 (some (.v (.lst (vs.map dT4)))))):=by
    have lm:(us.map dT4).length=us.length:=List.length_map ..
    by_cases h:r / 112 % 3=1
    · by_cases hl:(us.length:Int) < 7
      · have ha:=addA_T us us (by lia)
        refine ⟨us++us,⟨by rw [List.length_append]; lia,fun t h=>?_⟩,?_⟩
        · rcases List.mem_append.mp h with h | h
          · exact hu.2 t h
          · exact hu.2 t h
        · generalize (us++us).map dT4=V at *
          generalize us.map dT4=X at *
          simp [d112,m3,h,lm,hl,ha]
      · refine ⟨us,hu,?_⟩
        generalize us.map dT4=X at *
        simp [d112,m3,h,lm,hl]
    · refine ⟨us,hu,?_⟩
      generalize us.map dT4=X at *
      simp [d112,m3,h]
  obtain ⟨vs,hv,e2⟩:=h2
  rw [dSeq_nx e2]
  exact ⟨vs,_,hv,rfl⟩
noncomputable abbrev pxE:DF→Option D:=(asT (lcons (d2 ixD (getR 1) (d2 ixD (getR 0) (fun _=>some (.int 0)))) (lcons (d2 ixD (getR 1) (d2 ixD (getR 0) (fun _=>some (.int 1)))) (lcons (getV 2) (lcons (getV 3) lnil)))))
noncomputable def pxT (out:List Int) (K:Int) (o:Bool) (p:Int×Int):T4:=(ox out p.1,ox out p.2,K,o)
theorem comp_px {n K:Int} {o:Bool} {out:List Int} (hn:1≤n) (p:out.Perm (rngI n)) (ps:List (Int×Int)) (hp:∀ q∈ps,okP n q):mapD (setV 0) dYes pxE [none,some (.v (.lst (out.map .int))),some (.v (.int K)),some (.v (.bl o))] (ps.map dP)=some ((ps.map (pxT out K o)).map dT4):=by
  rw [List.map_map]
  refine mapD_map dP _ ps fun q h=>?_
  obtain ⟨a0,a1,b0,b1,_⟩:=hp q h
  have h1:=(ox_in hn p ⟨a0,a1⟩).1
  have h2:=(ox_in hn p ⟨b0,b1⟩).1
  have e0:ixD (dP q) (.int 0)=some (.int q.1):=rfl
  have e1:ixD (dP q) (.int 1)=some (.int q.2):=rfl
  have ef:(dT4 ∘ pxT out K o) q=.tup [.int (ox out q.1),.int (ox out q.2),.int K,.bl o]:=rfl
  refine ⟨[some (.v (dP q)),some (.v (.lst (out.map .int))),some (.v (.int K)),some (.v (.bl o))],rfl,rfl,?_⟩
  rw [ef]
  generalize dP q=T at *
  generalize out.map D.int=O at *
  simp [e0,e1,ix1,h1,h2]
theorem wx_c {N:List D} {r n f K:Int} {o:Bool} {ks:List D} {Or Pr:List DV→Option DV} {out:List Int} {ps:List (Int×Int)} (hn:1≤n∧n≤7) (p:out.Perm (rngI n)) (hp:∀ q∈ps,okP n q) (hl:ps.length≤12)
    (hO:Or [.v (.lst N),.v (.int n),.v (.int 742938285)]=some (.own (.lst (out.map .int)) none)) (hP:Pr [.v (.int n),.v (.int f)]=some (.own (.lst (ps.map dP)) none)) (G:DF→Option RES) :
    (dSeq (dSet 9 (callV Or (aB 0 (aV (getV 4) (aV (fun _=>some (.int 742938285)) (fun _=>some []))))))
    (dSeq (dSet 10 (asO (asL (dComp 1 [9,6,7] (lstOf (callV Pr (aB 4 (aB 5 (fun _=>some []))))) (setV 0) dYes pxE))))
    G)) (wxF N r n f K o (some (.v (.lst ks))) none none)=G (wxF N r n f K o (some (.v (.lst ks))) (some (.v (.lst (out.map .int)))) (some (.v (.lst ((ps.map (pxT out K o)).map dT4))))):=by
  have c1:=comp_px (K:=K) (o:=o) hn.1 p ps hp
  have l1:(ps.map dP).length≤16777216:=by rw [List.length_map]; lia
  generalize hE:pxE=E1 at *
  generalize (ps.map (pxT out K o)).map dT4=B at *
  generalize ps.map dP=T at *
  generalize out.map D.int=O at *
  simp [hO,hP,dComp_ap,l1,c1]
theorem web_ok' (C:Addr) (ns:List Int):∃ (n:Int) (ks:List Str) (us:List T4),(1≤n∧n≤7)∧okK n ks∧okS n us∧m_q26 C [.v (.lst (ns.map .int)),.v (.int 7),.v (.int 7)]=some (.v (.tup [.lst (ks.map .str),.lst (us.map dT4)])):=by
  obtain ⟨x,hx⟩:=at_ok C ns 0 (by decide)
  obtain ⟨r,hr,r0,_⟩:=spread_ok C x 1873046521 (by decide)
  obtain ⟨K,hK,K0,K1⟩:=fold_ok C ns
  have hn:1≤1 + r % 7∧1 + r % 7≤7:=by lia
  obtain ⟨n,en⟩:∃ n,1 + r % 7=n:=⟨_,rfl⟩
  rw [en] at hn
  have hfb:0≤r / 7 % 9∧r / 7 % 9 < 9:=by lia
  obtain ⟨f,ef⟩:∃ f,r / 7 % 9=f:=⟨_,rfl⟩
  rw [ef] at hfb
  have m9:=modD_int (r / 7) 9 (by decide)
  rw [ef] at m9
  have hFa:=fun q o=>false_ok C ns q K o ⟨K0,K1⟩
  obtain ⟨ks,hKd,kl,ko⟩:=kinds_ok C ns n (by lia)
  obtain ⟨ds,hDr,dl,dk⟩:=drawn_ok C ns n hn
  obtain ⟨out,hOr,p⟩:=order_ok' C ns n 742938285 hn (by decide)
  obtain ⟨ps,hPr,pl,pk⟩:=pairs_ok' C n f (dis7_1 ⟨hn.1,Int.lt_add_one_of_le hn.2⟩) (dis9 hfb)
  unfold m_q26 g_q26
  generalize m_q24 C=S at hr ⊢
  generalize m_q11 C=A at hx ⊢
  generalize m_q16 C=Fo at hK ⊢
  generalize m_q15 C=Fa at hFa ⊢
  generalize m_q18 C=Kd at hKd ⊢
  generalize m_q14 C=Dr at hDr ⊢
  generalize m_q20 C=Or at hOr ⊢
  generalize m_q21 C=Pr at hPr ⊢
  generalize ns.map D.int=N at *
  rw [mOf_3,show startD 11 3 [.v (.lst N),.v (.int 7),.v (.int 7)]=[some (.v (.lst N)),some (.v (.int 7)),some (.v (.int 7)),none,none,none,none,none,none,none,none] from rfl,wx_a hx hr (modD_int _ _ (by decide)) en (fdivD_int _ _ (by decide)) m9 hK (fdivD_int _ _ (by decide)) (modD_int _ _ (by decide))]
  generalize decide (r / 56 % 2=1)=o at *
  have m8:=modD_int f 8 (by decide)
  have d112:=fdivD_int r 112 (by decide)
  by_cases h8:f % 8=0
  · obtain ⟨n',ks',us',hn',hk',hu',e⟩:=hFa (r / 112) o
    refine ⟨n',ks',us',hn',hk',hu',?_⟩
    have s1:(dIf (asB (d2 eqD (d2 modD (getR 5) (fun _=>some (.int 8))) (fun _=>some (.int 0)))) (dRet (callV Fa (aB 0 (aV (d2 fdivD (getR 3) (fun _=>some (.int 112))) (aV (getV 6) (aV (getV 7) (aB 2 (fun _=>some [])))))))) dNx) (wxF N r n f K o none none none)=some (.rt (.v (.tup [.lst (ks'.map .str),.lst (us'.map dT4)])) (wxF N r n f K o none none none)):=by
      generalize ks'.map D.str=X at *
      generalize us'.map dT4=Y at *
      simp [m8,h8,d112,e]
    rw [dSeq_rt s1]
    rfl
  · have s1:(dIf (asB (d2 eqD (d2 modD (getR 5) (fun _=>some (.int 8))) (fun _=>some (.int 0)))) (dRet (callV Fa (aB 0 (aV (d2 fdivD (getR 3) (fun _=>some (.int 112))) (aV (getV 6) (aV (getV 7) (aB 2 (fun _=>some [])))))))) dNx) (wxF N r n f K o none none none)=some (.nx (wxF N r n f K o none none none)):=by
      simp [m8,h8]
    have s2:(dSet 8 (callV Kd (aB 0 (aB 4 (fun _=>some []))))) (wxF N r n f K o none none none)=some (.nx (wxF N r n f K o (some (.v (.lst (ks.map .str)))) none none)):=by
      generalize ks.map D.str=X at *
      simp [hKd]
    rw [dSeq_nx s1,dSeq_nx s2]
    by_cases h5:5 < f
    · refine ⟨n,ks,ds,hn,⟨kl,ko⟩,⟨dl,dk⟩,?_⟩
      have s3:(dIf (asB (d2 gtI (getR 5) (fun _=>some (.int 5)))) (dRet (asT (lcons (getV 8) (lcons (callV Dr (aB 0 (aB 4 (fun _=>some [])))) lnil)))) dNx) (wxF N r n f K o (some (.v (.lst (ks.map .str)))) none none)=some (.rt (.v (.tup [.lst (ks.map .str),.lst (ds.map dT4)])) (wxF N r n f K o (some (.v (.lst (ks.map .str)))) none none)):=by
        generalize ks.map D.str=X at *
        generalize ds.map dT4=Y at *
        simp [h5,hDr]
      rw [dSeq_rt s3]
      rfl
    · have s3:(dIf (asB (d2 gtI (getR 5) (fun _=>some (.int 5)))) (dRet (asT (lcons (getV 8) (lcons (callV Dr (aB 0 (aB 4 (fun _=>some [])))) lnil)))) dNx) (wxF N r n f K o (some (.v (.lst (ks.map .str)))) none none)=some (.nx (wxF N r n f K o (some (.v (.lst (ks.map .str)))) none none)):=by
        simp [h5]
      have ht:okS n (ps.map (pxT out K o)):=⟨by rw [List.length_map]; exact pl,fun t h=>by
        obtain ⟨q,hq,rfl⟩:=List.mem_map.mp h
        obtain ⟨a0,a1,b0,b1,ab⟩:=pk q hq
        have h1:=ox_in hn.1 p ⟨a0,a1⟩
        have h2:=ox_in hn.1 p ⟨b0,b1⟩
        exact ⟨h1.2.1,h1.2.2,h2.2.1,h2.2.2,ox_ne hn.1 p ⟨a0,a1⟩ ⟨b0,b1⟩ ab,K0,K1⟩⟩
      obtain ⟨us,z,hu,e⟩:=wx_b (N:=N) (r:=r) (f:=f) (K:=K) (o:=o) (ks:=ks.map .str) (x9:=some (.v (.lst (out.map .int)))) hn ht ⟨dl,dk⟩ hDr
      refine ⟨n,ks,us,hn,⟨kl,ko⟩,hu,?_⟩
      rw [dSeq_nx s3,wx_c hn p pk pl hOr hPr,e]
      rfl
noncomputable abbrev btB:DF→Option RES:=(dSeq (dIf (asB (d2 eqD (asT (lcons (d2 ixD (getR 4) (fun _=>some (.int 0))) (lcons (d2 ixD (getR 4) (fun _=>some (.int 1))) lnil))) (asT (lcons (getV 1) (lcons (getV 2) lnil))))) (dApp 3 (asT (lcons (d2 ixD (getR 4) (fun _=>some (.int 2))) (lcons (d1 intD (d2 ixD (getR 4) (fun _=>some (.int 3)))) lnil)))) dNx)
    (dIf (asB (d2 eqD (asT (lcons (d2 ixD (getR 4) (fun _=>some (.int 1))) (lcons (d2 ixD (getR 4) (fun _=>some (.int 0))) lnil))) (asT (lcons (getV 1) (lcons (getV 2) lnil))))) (dApp 3 (asT (lcons (d2 ixD (getR 4) (fun _=>some (.int 2))) (lcons (d2 mulD (fun _=>some (.int 2)) (d1 intD (d2 ixD (getR 4) (fun _=>some (.int 3))))) lnil)))) dNx))
theorem bt_step (TS:List D) (i j:Int) (t:T4) (L:List (Int×Int)) (hL:L.length≤100) :
    btB [some (.v (.lst TS)),some (.v (.int i)),some (.v (.int j)),some (.own (.lst (L.map dP)) none),some (.v (dT4 t))]=some (.nx [some (.v (.lst TS)),some (.v (.int i)),some (.v (.int j)),some (.own (.lst ((L++prs i j t).map dP)) none),some (.v (dT4 t))]):=by
  obtain ⟨a,b,k,o⟩:=t
  have l1:L.length < 16777216:=by lia
  have l2:L.length + 1 < 16777216:=by lia
  have m1:=mulD_int 2 (if o=true then 1 else 0) (.inl (by decide))
  have m2:(2:Int) * (if o=true then 1 else 0)=if o=true then 2 else 0:=by cases o <;> rfl
  rw [m2] at m1
  have e1:=eqD_P a b i j
  have e2:=eqD_P b a i j
  have hp:prs i j (a,b,k,o)=(if decide (a=i∧b=j)=true then [(k,if o=true then 1 else 0)] else [])++(if decide (b=i∧a=j)=true then [(k,if o=true then 2 else 0)] else []):=by
    simp only [decide_eq_true_eq]
    rfl
  rw [hp]
  generalize decide (a=i∧b=j)=c1 at e1 ⊢
  generalize decide (b=i∧a=j)=c2 at e2 ⊢
  have i1:=intD_bl o
  generalize (if o=true then (1:Int) else 0)=w1 at *
  generalize (if o=true then (2:Int) else 0)=w2 at *
  have q0:ixD (dT4 (a,b,k,o)) (.int 0)=some (.int a):=rfl
  have q1:ixD (dT4 (a,b,k,o)) (.int 1)=some (.int b):=rfl
  have q2:ixD (dT4 (a,b,k,o)) (.int 2)=some (.int k):=rfl
  have q3:ixD (dT4 (a,b,k,o)) (.int 3)=some (.bl o):=rfl
  have d1:dP (k,w1)=.tup [.int k,.int w1]:=rfl
  have d2:dP (k,w2)=.tup [.int k,.int w2]:=rfl
  have lm:(L.map dP).length=L.length:=List.length_map ..
  rw [List.map_append]
  generalize L.map dP=M at *
  generalize dT4 (a,b,k,o)=T at *
  cases c1 <;> cases c2 <;> simp [btB,e1,e2,i1,m1,l1,l2,lm,d1,d2,q0,q1,q2,q3]
theorem btw_ok (C:Addr) (ts:List T4) (hl:ts.length≤12) (i j:Int):m_q12 C [.v (.lst (ts.map dT4)),.v (.int i),.v (.int j)]=some (.v (srP (allP i j ts))):=by
  obtain ⟨z,e,y4,rfl⟩:=forD_ix (st:=setV 4) (body:=btB) (fun m ρ=>∃ y4,ρ=[some (.v (.lst (ts.map dT4))),some (.v (.int i)),some (.v (.int j)),some (.own (.lst ((allP i j (ts.take m)).map dP)) none),y4]) (ts.map dT4) 0
    [some (.v (.lst (ts.map dT4))),some (.v (.int i)),some (.v (.int j)),some (.own (.lst []) none),none] ⟨_,rfl⟩ (by
      rintro m d _ hj ⟨y4,rfl⟩
      rw [Nat.zero_add]
      rw [List.getElem?_map] at hj
      cases ht:ts[m]? with
      | none=>rw [ht] at hj; cases hj
      | some t=>
      rw [ht] at hj
      cases hj
      rw [take_one ht,allP_one]
      have l1:=allP_len i j (ts.take m)
      have l3:(ts.take m).length≤12:=by rw [List.length_take]; lia
      exact ⟨_,rfl,_,bt_step (ts.map dT4) i j t (allP i j (ts.take m)) (by lia),_,rfl⟩)
  rw [Nat.zero_add,List.length_map,List.take_length] at e
  have l1:=allP_len i j ts
  have hso:=sortOk_P (allP i j ts) (by lia)
  unfold m_q12 g_q12
  rw [mOf_3]
  have s0:dSetO 3 (asL lnil) (startD 5 3 [.v (.lst (ts.map dT4)),.v (.int i),.v (.int j)])=some (.nx [some (.v (.lst (ts.map dT4))),some (.v (.int i)),some (.v (.int j)),some (.own (.lst []) none),none]):=rfl
  rw [dSeq_nx s0,dSeq_nx (dFor_nx (ds:=ts.map dT4) rfl e)]
  unfold srP
  generalize (allP i j ts).map dP=L at *
  generalize ts.map dT4=T at *
  simp [sortL_ap,hso,tupD]
noncomputable abbrev ttB (B:List DV→Option DV):DF→Option RES:=(dIf (asB (d2 neD (getN 3) (getN 4))) (dPutT 2 (asT (lcons (getV 3) (lcons (getV 4) lnil))) (callV B (aB 0 (aV (getV 3) (aV (getV 4) (fun _=>some [])))))) dNx)
noncomputable abbrev ttF (TS:List D) (n:Int) (kvs:List (List Key×D)) (x3 x4:Option DV):DF:=[some (.v (.lst TS)),some (.v (.int n)),some (.own (.dT kvs) none),x3,x4]
theorem tt_mid (B:List DV→Option DV) (n:Int) (kvs:List (List Key×D)) (i j:Int) (ts:List T4) (hk:kvs.length < 1000) (hB:B [.v (.lst (ts.map dT4)),.v (.int i),.v (.int j)]=some (.v (srP (allP i j ts)))) :
    ttB B (ttF (ts.map dT4) n kvs (some (.v (.int i))) (some (.v (.int j))))=some (.nx (ttF (ts.map dT4) n (if i=j then kvs else putD kvs [.inl i,.inl j] (srP (allP i j ts))) (some (.v (.int i))) (some (.v (.int j))))):=by
  have hk':kvs.length < 16777216:=by lia
  generalize srP (allP i j ts)=R at *
  generalize ts.map dT4=T at *
  by_cases h:i=j
  · rw [if_pos h]
    simp [ttB,h]
  · rw [if_neg h]
    simp [ttB,h,dPutT_ap,keyT,keysOf,dKey,hB,hk']
theorem tt_row (B:List DV→Option DV) (n:Int) (hn:1≤n∧n≤7) (kvs:List (List Key×D)) (i:Nat) (hi:i < 7) (ts:List T4) (hB:∀ i j:Int,B [.v (.lst (ts.map dT4)),.v (.int i),.v (.int j)]=some (.v (srP (allP i j ts)))) (hk:kvs.length≤7 * i) (x4:Option DV) (hS:tbS ts kvs fun a b=>(0≤a∧a < (i:Int)∧0≤b∧b < n)∧a≠b) :
    ∃ kvs' y4,forD (setV 4) (ttB B) ((rngI n).map .int) (ttF (ts.map dT4) n kvs (some (.v (.int i))) x4)=some (.nx (ttF (ts.map dT4) n kvs' (some (.v (.int i))) y4))∧kvs'.length≤7 * (i + 1) ∧
      tbS ts kvs' fun a b=>(0≤a∧a < ((i + 1:Nat):Int)∧0≤b∧b < n)∧a≠b:=by
  obtain ⟨z,e,kvs',y4,rfl,h1,h2⟩:=forD_ix (st:=setV 4) (body:=ttB B) (fun m ρ=>∃ kvs' y4,ρ=ttF (ts.map dT4) n kvs' (some (.v (.int i))) y4∧kvs'.length≤7 * i + m ∧
      tbS ts kvs' fun a b=>((0≤a∧a < (i:Int)∧0≤b∧b < n)∨(a=(i:Int)∧0≤b∧b < (m:Int)))∧a≠b) ((rngI n).map .int) 0 (ttF (ts.map dT4) n kvs (some (.v (.int i))) x4)
      ⟨kvs,_,rfl,hk,fun a b q=>by
        rcases q.1 with z | z
        · exact hS a b ⟨z,q.2⟩
        · have:=z.2.1; have:=z.2.2; lia⟩ (by
      rintro m d _ hj ⟨kvs',y4,rfl,h1,h2⟩
      rw [Nat.zero_add] at h1 h2 ⊢
      have hm:m < n.toNat:=by have:=(List.getElem?_eq_some_iff.mp hj).1; rwa [List.length_map,rngI_len] at this
      rw [rngI_at hj]
      have e:=tt_mid B n kvs' i m ts (by lia) (hB i m)
      have l:=putD_len [.inl (i:Int),.inl (m:Int)] (srP (allP i m ts)) kvs'
      refine ⟨_,rfl,_,e,_,_,rfl,?_,?_⟩
      · split <;> lia
      · split
        · rename_i him
          intro a b q
          refine h2 a b ⟨?_,q.2⟩
          rcases q.1 with z | ⟨z1,z2,z3⟩
          · exact .inl z
          · refine .inr ⟨z1,z2,?_⟩
            have:=q.2
            lia
        · refine tb_put h2 i m fun a b q=>?_
          rcases q.1 with z | ⟨z1,z2,z3⟩
          · exact .inl ⟨.inl z,q.2⟩
          · by_cases z:b=(m:Int)
            · exact .inr ⟨z1.symm,z.symm⟩
            · exact .inl ⟨.inr ⟨z1,z2,by lia⟩,q.2⟩)
  rw [Nat.zero_add,List.length_map,rngI_len] at h1 h2
  refine ⟨kvs',y4,e,by lia,fun a b q=>h2 a b ⟨?_,q.2⟩⟩
  by_cases z:a=(i:Int)
  · exact .inr ⟨z,q.1.2.2.1,by lia⟩
  · exact .inl ⟨q.1.1,by lia,q.1.2.2.1,q.1.2.2.2⟩
theorem table_ok' (C:Addr) (n:Int) (ts:List T4) (hn:1≤n∧n≤7) (hl:ts.length≤12):∃ kvs,m_q25 C [.v (.lst (ts.map dT4)),.v (.int n)]=some (.own (.dT kvs) none)∧tbS ts kvs fun a b=>(0≤a∧a < n∧0≤b∧b < n)∧a≠b:=by
  have hB:=btw_ok C ts hl
  unfold m_q25 g_q25
  generalize m_q12 C=B at hB ⊢
  obtain ⟨z,e,kvs,y3,y4,rfl,h1,h2⟩:=forD_ix (st:=setV 3) (body:=dFor (rng1 (getR 1)) (setV 4) (ttB B)) (fun m ρ=>∃ kvs y3 y4,ρ=ttF (ts.map dT4) n kvs y3 y4∧kvs.length≤7 * m ∧
      tbS ts kvs fun a b=>(0≤a∧a < (m:Int)∧0≤b∧b < n)∧a≠b) ((rngI n).map .int) 0 (ttF (ts.map dT4) n [] none none)
      ⟨[],_,_,rfl,Nat.le_refl _,fun a b q=>by have:=q.1.1; have:=q.1.2.1; lia⟩ (by
      rintro m d _ hj ⟨kvs,y3,y4,rfl,h1,h2⟩
      rw [Nat.zero_add] at h1 h2 ⊢
      have hm:m < n.toNat:=by have:=(List.getElem?_eq_some_iff.mp hj).1; rwa [List.length_map,rngI_len] at this
      rw [rngI_at hj]
      obtain ⟨kvs',z4,e,h3,h4⟩:=tt_row B n hn kvs m (by lia) ts hB h1 y4 h2
      exact ⟨_,rfl,_,dFor_nx (rng1_of rfl ⟨by lia,by lia⟩) e,kvs',_,_,rfl,h3,h4⟩)
  rw [Nat.zero_add,List.length_map,rngI_len] at h2
  refine ⟨kvs,?_,fun a b q=>h2 a b ⟨⟨q.1.1,by lia,q.1.2.2⟩,q.2⟩⟩
  rw [mOf_2]
  have s0:dSetO 2 (fun _=>some (.dT [])) (startD 5 2 [.v (.lst (ts.map dT4)),.v (.int n)])=some (.nx (ttF (ts.map dT4) n [] none none)):=rfl
  rw [dSeq_nx s0,dSeq_nx (dFor_nx (ds:=(rngI n).map .int) (rng1_of rfl ⟨by lia,by lia⟩) e)]
  rfl
noncomputable def rks (ds:List D):List Int:=ds.map fun d=>(rkD (dedD ds) d:Int)
theorem rks_len (ds:List D):(rks ds).length=ds.length:=List.length_map ..
theorem mapD_filt {c:DF→Option Bool} {ρ:DF} (q:D→Bool):∀ xs:List D,(∀ x∈xs,c (ρ.set 0 (some (.v x)))=some (q x))→0 < ρ.length→mapD (setV 0) c (getV 0) ρ xs=some (xs.filter q)
  | [],_,_=>rfl
  | x::xs,h,hl=>by
    have h0:getV 0 (ρ.set 0 (some (.v x)))=some x:=by
      unfold getV
      rw [List.getElem?_set_self hl]
    unfold mapD
    rw [show setV 0 x ρ=some (ρ.set 0 (some (.v x))) from rfl,Option.bind_some,h x List.mem_cons_self,Option.bind_some,mapD_filt q xs (fun y hy=>h y (List.mem_cons_of_mem _ hy)) hl]
    cases hq:q x with
    | true=>rw [if_pos rfl,h0,List.filter_cons_of_pos hq]; rfl
    | false=>rw [if_neg Bool.false_ne_true,List.filter_cons_of_neg (by rw [hq]; exact Bool.false_ne_true)]
theorem any_mem {n:Nat} {acc:List D} {d:D} (hc:Cmps n (d::acc)):(acc.any fun z=>eqd z d)=true↔d∈acc:=by
  rw [List.any_eq_true]
  constructor
  · rintro ⟨z,hz,e⟩
    rwa [← (eqd_iff z d (hc.2 z (List.mem_cons_of_mem _ hz) d List.mem_cons_self)).mp e]
  · exact fun h=>⟨d,h,(eqd_iff d d (hc.2 d List.mem_cons_self d List.mem_cons_self)).mpr rfl⟩
theorem okN_succ:∀ (n:Nat) (d:D),okN n d=true→okN (n + 1) d=true:=by
  intro n
  induction n with
  | zero=>
    intro d h
    cases d with
    | tup xs=>cases xs with
      | nil=>rfl
      | cons x r=>cases h
    | lst xs=>cases xs with
      | nil=>rfl
      | cons x r=>cases h
    | _=>exact h
  | succ n ih=>
    intro d h
    cases d with
    | tup xs=>exact List.all_eq_true.mpr fun x hx=>ih x (List.all_eq_true.mp h x hx)
    | lst xs=>exact List.all_eq_true.mpr fun x hx=>ih x (List.all_eq_true.mp h x hx)
    | _=>exact h
theorem okN_up {n m:Nat} (h:n≤m) {d:D} (hd:okN n d=true):okN m d=true:=by
  induction h with
  | refl=>exact hd
  | step _ ih=>exact okN_succ _ _ ih
noncomputable abbrev rkB:DF→Option RES:=(dIf (asB (d2 notinD (getN 2) (getN 1))) (dApp 1 (getV 2)) dNx)
theorem ranks_ok (C:Addr) (ds:List D) (x:DV) (hx:x=.v (.lst ds)∨x=.bor (.lst ds)) (hc:Cmps 28 ds) (hl:ds.length≤100):m_q23 C [x]=some (.own (.lst ((rks ds).map .int)) none):=by
  have hb:∀ x1 x2,borOf 0 [some x,x1,x2]=some ds:=fun x1 x2=>by rcases hx with rfl | rfl <;> rfl
  have o29:∀ d∈ds,okN 29 d=true:=fun d hd=>okN_up (by decide) (hc.1 d hd)
  have o30:∀ d∈ds,okN 30 d=true:=fun d hd=>okN_up (by decide) (hc.1 d hd)
  obtain ⟨ρ',e1,x2,hρ⟩:=forD_ix (st:=setV 2) (body:=rkB) (fun k ρ=>∃ x2,ρ=[some x,some (.own (.lst (dedD (ds.take k))) none),x2]) ds 0 [some x,some (.own (.lst []) none),none] ⟨none,rfl⟩ (by
    rintro j d ρ hd ⟨x2,rfl⟩
    refine ⟨_,rfl,?_⟩
    have hm:d∈ds:=List.mem_of_getElem? hd
    have hsub:∀ z∈dedD (ds.take (0 + j)),z∈ds:=fun z hz=>List.mem_of_mem_take (mem_dedD.mp hz)
    have hall:(dedD (ds.take (0 + j))).all (okN 29)=true:=List.all_eq_true.mpr fun z hz=>o29 z (hsub z hz)
    have hcc:Cmps 28 (d::dedD (ds.take (0 + j))):=hc.sub fun z hz=>by
      rcases List.mem_cons.mp hz with rfl | hz
      · exact hm
      · exact hsub z hz
    have ha:=any_mem hcc
    have hlen:(dedD (ds.take (0 + j))).length≤100:=Nat.le_trans (dedD_len _) (Nat.le_trans (by rw [List.length_take]; lia) hl)
    have et:ds.take (0 + j + 1)=ds.take (0 + j)++[d]:=by
      rw [List.take_add_one,Nat.zero_add,hd]; rfl
    have en:notinD d (.lst (dedD (ds.take (0 + j))))=some (.bl (!(dedD (ds.take (0 + j))).any fun z=>eqd z d)):=by
      unfold notinD
      show (if (okN 30 d&&(dedD (ds.take (0 + j))).all (okN 29))=true then _ else _)=_
      rw [o30 d hm,hall]; rfl
    rw [et,dedD_snoc]
    generalize dedD (ds.take (0 + j))=acc at *
    by_cases hq:d∈acc
    · have:(acc.any fun z=>eqd z d)=true:=ha.mpr hq
      rw [this] at en
      refine ⟨_,?_,⟨some (.v d),rfl⟩⟩
      rw [if_pos hq]
      simp [rkB,en,OD.d]
    · have:(acc.any fun z=>eqd z d)=false:=by
        cases z:acc.any fun z=>eqd z d with
        | false=>rfl
        | true=>exact absurd (ha.mp z) hq
      rw [this] at en
      refine ⟨_,?_,⟨some (.v d),rfl⟩⟩
      rw [if_neg hq]
      have hl':acc.length < 16777216:=by lia
      simp [rkB,en,OD.d,dApp,hl'])
  rw [Nat.zero_add,List.take_length] at hρ
  subst hρ
  have hU:∀ u∈dedD ds,u∈ds:=fun u hu=>mem_dedD.mp hu
  have hUl:(dedD ds).length≤16777216:=Nat.le_trans (dedD_len ds) (by lia)
  have inner:∀ d∈ds,dComp 1 [0] (lstOf (getV 1)) (setV 0) (asB (d2 ltd (getN 0) (getN 1))) (getV 0) [some (.v d),some (.v (.lst (dedD ds)))]=some ((dedD ds).filter fun u=>ltD u d):=fun d hd=>by
    rw [dComp_ap]
    show (if (dedD ds).length≤16777216 then mapD _ _ _ [none,some (.v d)] (dedD ds) else none)=_
    rw [if_pos hUl]
    refine mapD_filt (fun u=>ltD u d) _ (fun u hu=>?_) (by simp)
    have hlt:ltd u d=some (.bl (ltD u d)):=by
      unfold ltd
      rw [o30 u (hU u hu),o30 d hd,hc.2 u (hU u hu) d hd]; rfl
    show (match ltd u d with | some (.bl b)=>some b | _=>none)=_
    rw [hlt]
  have outer:mapD (setV 0) dYes (d1 lenD (asO (asL (dComp 1 [0] (lstOf (getV 1)) (setV 0) (asB (d2 ltd (getN 0) (getN 1))) (getV 0))))) [none,some (.v (.lst (dedD ds)))] ds=some ((rks ds).map .int):=by
    have:=mapD_map (st:=setV 0) (c:=dYes) (e:=d1 lenD (asO (asL (dComp 1 [0] (lstOf (getV 1)) (setV 0) (asB (d2 ltd (getN 0) (getN 1))) (getV 0))))) (ρ:=[none,some (.v (.lst (dedD ds)))]) id (fun d=>D.int (rkD (dedD ds) d:Int)) ds fun d hd=>⟨_,rfl,rfl,by
      have q:=inner d hd
      rw [d1_ap,asO_ap,asL_ap]
      show (((dComp _ _ _ _ _ _ [some (.v d),some (.v (.lst (dedD ds)))]).map OD.lst).map OD.d).bind lenD=_
      rw [q]; rfl⟩
    rw [List.map_id] at this
    rw [this]
    unfold rks
    rw [List.map_map]; rfl
  have hl2:ds.length≤16777216:=by lia
  unfold m_q23 g_q23
  rw [mOf_1,show startD 3 1 [x]=[some x,none,none] from rfl]
  rw [dSeq_ap,show dSetO 1 (asL lnil) [some x,none,none]=some (.nx [some x,some (.own (.lst []) none),none]) from rfl]
  show retOf (dSeq (dFor (borOf 0) (setV 2) rkB) _ [some x,some (.own (.lst []) none),none])=_
  rw [dSeq_ap,dFor_ap,hb,Option.bind_some,e1]
  show retOf (dRetO _ [some x,some (.v (.lst (dedD ds))),x2])=_
  rw [dRetO_ap,asL_ap,dComp_ap,hb,Option.bind_some,if_pos hl2]
  show retOf (((mapD _ _ _ [none,some (.v (.lst (dedD ds)))] ds).map OD.lst).map _)=_
  rw [outer]; rfl
theorem ranked_ok (C:Addr) (ds:List D) (hk:setKeysOk ds=true) (hs:sortOk (dedD ds)=true) (hc:Cmps 28 ds) (hl:ds.length≤100):m_q30 C [.v (.lst ds)]=some (.own (.lst ((rks ds).map .int)) none):=by
  have hm:∀ d∈sortD (dedD ds),d∈ds:=fun d hd=>mem_dedD.mp ((sortD_perm _).mem_iff.mp hd)
  have hall:(sortD (dedD ds)).all (okN 29)=true:=List.all_eq_true.mpr fun d hd=>okN_up (by decide) (hc.1 d (hm d hd))
  have hix:∀ d∈ds,idxM (.lst (sortD (dedD ds))) d=some (.int (rkD (dedD ds) d:Int)):=fun d hd=>by
    show (if ((sortD (dedD ds)).all (okN 29)&&okN 30 d)=true then (idxD d (sortD (dedD ds))).map (fun (j:Nat)=>D.int (j:Int)) else none)=_
    rw [hall,okN_up (by decide) (hc.1 d hd),Bool.and_self,if_pos rfl,idx_ded hc hd]; rfl
  have cm:mapD (setV 0) dYes (d2 idxM (getN 1) (getN 0)) [none,some (.v (.lst (sortD (dedD ds))))] ds=some ((rks ds).map .int):=by
    have:=mapD_map (st:=setV 0) (c:=dYes) (e:=d2 idxM (getN 1) (getN 0)) (ρ:=[none,some (.v (.lst (sortD (dedD ds))))]) id (fun d=>D.int (rkD (dedD ds) d:Int)) ds fun d hd=>⟨_,rfl,rfl,by
      show idxM (.lst (sortD (dedD ds))) d=_
      exact hix d hd⟩
    rw [List.map_id] at this
    rw [this]
    unfold rks
    rw [List.map_map]; rfl
  have hset:setSortL (getR 0) [some (.v (.lst ds)),none]=some (sortD (dedD ds)):=by
    show (if setKeysOk ds=true∧sortOk (dedD ds)=true then some (sortD (dedD ds)) else none)=_
    rw [if_pos ⟨hk,hs⟩]
  have hl2:ds.length≤16777216:=by lia
  unfold m_q30 g_q30
  rw [mOf_1,show startD 2 1 [.v (.lst ds)]=[some (.v (.lst ds)),none] from rfl,dSeq_ap,dSet_ap,asO_ap,asL_ap,hset]
  show retOf (dRetO _ [some (.v (.lst ds)),some (.v (.lst (sortD (dedD ds))))])=_
  rw [dRetO_ap,asL_ap,dComp_ap]
  show retOf ((((if ds.length≤16777216 then mapD _ _ _ [none,some (.v (.lst (sortD (dedD ds))))] ds else none)).map OD.lst).map _)=_
  rw [if_pos hl2,cm]; rfl
noncomputable def prD (ps:List Int) (ts:List T4) (i j:Int):D:=.tup [.int (ox ps j),srP (allP i j ts)]
noncomputable def oth (n i:Int):List Int:=(rngI n).filter fun j=>!decide (j=i)
noncomputable def kyD (ps:List Int) (ts:List T4) (n i:Int):D:=.tup [.int (ox ps i),.tup (sortD ((oth n i).map (prD ps ts i)))]
theorem ox_at {ps:List Int} {n i:Int} (hl:(ps.length:Int)=n) (h:0≤i∧i < n):ixD (.lst (ps.map .int)) (.int i)=some (.int (ox ps i)):=by
  obtain ⟨x,h1,h2⟩:=atI_map (l:=ps) D.int h.1 (by lia)
  rw [ix1,h2]
  unfold ox
  rw [h1]; rfl
theorem mem_oth {n i j:Int}:j∈oth n i↔(0≤j∧j < n)∧j≠i:=by
  unfold oth
  rw [List.mem_filter,mem_rngI]
  simp
theorem srP_all {m:Nat} (ps:List (Int×Int)) (P:D→Prop) (h:∀ p,P (dP p)):∀ d∈sortD (ps.map dP),P d:=fun d hd=>by
  obtain ⟨p,_,rfl⟩:=List.mem_map.mp ((sortD_perm _).mem_iff.mp hd)
  exact h p
theorem okN_srP (ps:List (Int×Int)):okN 2 (srP ps)=true:=List.all_eq_true.mpr (srP_all (m:=0) ps (fun d=>okN 1 d=true) fun p=>rfl)
theorem hkN_srP (ps:List (Int×Int)):hkN 2 (srP ps)=true:=List.all_eq_true.mpr (srP_all (m:=0) ps (fun d=>hkN 1 d=true) fun p=>rfl)
theorem cmpOks_all:∀ (xs ys:List D),(∀ x∈xs,∀ y∈ys,cmpOk x y=true)→cmpOks xs ys=true
  | [],_,_=>by simp [cmpOks]
  | _::_,[],_=>by simp [cmpOks]
  | x::xs,y::ys,h=>by
    rw [cmpOks,Bool.and_eq_true]
    exact ⟨h x List.mem_cons_self y List.mem_cons_self,cmpOks_all xs ys fun a ha b hb=>h a (List.mem_cons_of_mem _ ha) b (List.mem_cons_of_mem _ hb)⟩
theorem cmpOk_srP (a b:List (Int×Int)):cmpOk (srP a) (srP b)=true:=cmpOks_all _ _ fun x hx y hy=>by
  obtain ⟨p,_,rfl⟩:=List.mem_map.mp ((sortD_perm _).mem_iff.mp hx)
  obtain ⟨q,_,rfl⟩:=List.mem_map.mp ((sortD_perm _).mem_iff.mp hy)
  rfl
theorem okN_prD (ps:List Int) (ts:List T4) (i j:Int):okN 3 (prD ps ts i j)=true:=by
  show (true&&(okN 2 (srP (allP i j ts))&&true))=true
  rw [okN_srP]; rfl
theorem hkN_prD (ps:List Int) (ts:List T4) (i j:Int):hkN 3 (prD ps ts i j)=true:=by
  show (true&&(hkN 2 (srP (allP i j ts))&&true))=true
  rw [hkN_srP]; rfl
theorem cmpOk_prD (ps:List Int) (ts:List T4) (i j i' j':Int):cmpOk (prD ps ts i j) (prD ps ts i' j')=true:=by
  show (true&&(cmpOk (srP (allP i j ts)) (srP (allP i' j' ts))&&true))=true
  rw [cmpOk_srP]; rfl
theorem mem_pr {ps:List Int} {ts:List T4} {n i:Int} {d:D} (h:d∈sortD ((oth n i).map (prD ps ts i))):∃ j,d=prD ps ts i j:=by
  obtain ⟨j,_,rfl⟩:=List.mem_map.mp ((sortD_perm _).mem_iff.mp h)
  exact ⟨j,rfl⟩
theorem okN_kyD (ps:List Int) (ts:List T4) (n i:Int):okN 5 (kyD ps ts n i)=true:=by
  show (true&&(okN 4 (.tup (sortD ((oth n i).map (prD ps ts i))))&&true))=true
  have:okN 4 (.tup (sortD ((oth n i).map (prD ps ts i))))=true:=List.all_eq_true.mpr fun d hd=>by obtain ⟨j,rfl⟩:=mem_pr hd; exact okN_prD ps ts i j
  rw [this]; rfl
theorem hkN_kyD (ps:List Int) (ts:List T4) (n i:Int):hkN 8 (kyD ps ts n i)=true:=by
  have up:∀ (m:Nat) (d:D),hkN m d=true→hkN (m + 1) d=true:=by
    intro m
    induction m with
    | zero=>intro d h; cases d with
      | int x=>rfl
      | _=>cases h
    | succ m ih=>intro d h; cases d with
      | int x=>rfl
      | tup xs=>exact List.all_eq_true.mpr fun x hx=>ih x (List.all_eq_true.mp h x hx)
      | _=>cases h
  have h5:hkN 5 (kyD ps ts n i)=true:=by
    show (true&&(hkN 4 (.tup (sortD ((oth n i).map (prD ps ts i))))&&true))=true
    have:hkN 4 (.tup (sortD ((oth n i).map (prD ps ts i))))=true:=List.all_eq_true.mpr fun d hd=>by obtain ⟨j,rfl⟩:=mem_pr hd; exact hkN_prD ps ts i j
    rw [this]; rfl
  exact up _ _ (up _ _ (up _ _ h5))
theorem cmpOk_kyD (ps:List Int) (ts:List T4) (n i j:Int):cmpOk (kyD ps ts n i) (kyD ps ts n j)=true:=by
  show (true&&(cmpOks (sortD ((oth n i).map (prD ps ts i))) (sortD ((oth n j).map (prD ps ts j)))&&true))=true
  rw [cmpOks_all _ _ fun x hx y hy=>by
    obtain ⟨a,rfl⟩:=mem_pr hx
    obtain ⟨b,rfl⟩:=mem_pr hy
    exact cmpOk_prD ps ts i a j b]
  rfl
noncomputable def kys (ps:List Int) (ts:List T4) (n:Int):List D:=(rngI n).map (kyD ps ts n)
theorem kys_len (ps:List Int) (ts:List T4) (n:Int) (hn:1≤n∧n≤7):(kys ps ts n).length≤7:=by
  unfold kys; rw [List.length_map,rngI_len]; lia
theorem cmps_kys (ps:List Int) (ts:List T4) (n:Int):Cmps 28 (kys ps ts n):=by
  refine ⟨fun d hd=>?_,fun x hx y hy=>?_⟩
  · obtain ⟨i,_,rfl⟩:=List.mem_map.mp hd
    exact okN_up (by decide) (okN_kyD ps ts n i)
  · obtain ⟨i,_,rfl⟩:=List.mem_map.mp hx
    obtain ⟨j,_,rfl⟩:=List.mem_map.mp hy
    exact cmpOk_kyD ps ts n i j
theorem keysOk_kys (ps:List Int) (ts:List T4) (n:Int) (hn:1≤n∧n≤7):setKeysOk (kys ps ts n)=true:=by
  have:=kys_len ps ts n hn
  unfold setKeysOk
  rw [Bool.and_eq_true,decide_eq_true_eq]
  refine ⟨by lia,List.all_eq_true.mpr fun d hd=>?_⟩
  obtain ⟨i,_,rfl⟩:=List.mem_map.mp hd
  unfold keyOk
  rw [hkN_kyD,okN_up (n:=5) (by decide) (okN_kyD ps ts n i)]; rfl
theorem sortOk_of {ds:List D} (hl:ds.length < 64) (hc:Cmps 28 ds) (h1:∀ d∈ds,∃ (x:Int) (r:List D),d=.tup (.int x::r)):sortOk ds=true:=by
  unfold sortOk
  simp only [Bool.and_eq_true,decide_eq_true_eq]
  refine ⟨⟨⟨⟨hl,List.all_eq_true.mpr hc.1⟩,List.all_eq_true.mpr fun x hx=>List.all_eq_true.mpr fun y hy=>hc.2 x hx y hy⟩,List.all_eq_true.mpr fun d hd=>?_⟩,List.all_eq_true.mpr fun d hd=>?_⟩
  · obtain ⟨x,r,rfl⟩:=h1 d hd; rfl
  · obtain ⟨x,r,rfl⟩:=h1 d hd; rfl
theorem sortOk_kys (ps:List Int) (ts:List T4) (n:Int) (hn:1≤n∧n≤7):sortOk (dedD (kys ps ts n))=true:=by
  have h1:=kys_len ps ts n hn
  have h2:=dedD_len (kys ps ts n)
  refine sortOk_of (by lia) ((cmps_kys ps ts n).sub fun x hx=>mem_dedD.mp hx) fun d hd=>?_
  obtain ⟨i,_,rfl⟩:=List.mem_map.mp (mem_dedD.mp hd)
  exact ⟨_,_,rfl⟩
theorem oth_len (n i:Int) (hn:1≤n∧n≤7):(oth n i).length≤7:=by
  have:(oth n i).length≤(rngI n).length:=List.length_filter_le _ _
  rw [rngI_len] at this
  lia
theorem sortOk_pr (ps:List Int) (ts:List T4) (n i:Int) (hn:1≤n∧n≤7):sortOk ((oth n i).map (prD ps ts i))=true:=by
  have:=oth_len n i hn
  refine sortOk_of (by rw [List.length_map]; lia) ⟨fun d hd=>?_,fun x hx y hy=>?_⟩ fun d hd=>?_
  · obtain ⟨j,_,rfl⟩:=List.mem_map.mp hd
    exact okN_up (by decide) (okN_prD ps ts i j)
  · obtain ⟨a,_,rfl⟩:=List.mem_map.mp hx
    obtain ⟨b,_,rfl⟩:=List.mem_map.mp hy
    exact cmpOk_prD ps ts i a i b
  · obtain ⟨j,_,rfl⟩:=List.mem_map.mp hd
    exact ⟨_,_,rfl⟩
noncomputable abbrev kcE (C:Addr) (Bt:List DV→Option DV):DF→Option D:=(asT (lcons (d2 ixD (getR 1) (getR 0)) (lcons (callMV C "between" Bt (mArgs (selfB 2) (aV (getV 3) (aV (getV 0) (fun _=>some []))))) lnil)))
theorem key_of_ok (C:Addr) (ks:List Str) (T:D) (kvs:List (List Key×D)) (ts:List T4) (ps:List Int) (n i:Int) (hn:1≤n∧n≤7) (hk:(ks.length:Int)=n) (hp:(ps.length:Int)=n) (hi:0≤i∧i < n) (hJ:JOk kvs ts) :
    m_q8 C [.v (.ins C (wFs ks T (.dT kvs))),.v (.lst (ps.map .int)),.v (.int i)]=some (.v (kyD ps ts n i)):=by
  have hB:=fun j=>between_ok C ks T kvs ts i j hJ
  have hS:=fun xs=>selfC_w (C:=C) (lk_between ks T (.dT kvs)) xs
  have hsz:=fun x3 x4=>size_at C ks T (.dT kvs) n hk [some (.v (.ins C (wFs ks T (.dT kvs)))),some (.v (.lst (ps.map .int))),some (.v (.int i)),x3,x4] rfl
  have hox:=fun j (h:0≤j∧j < n)=>ox_at (i:=j) hp h
  have hso:=sortOk_pr ps ts n i hn
  have hol:=oth_len n i hn
  have hoi:=hox i hi
  unfold m_q8 g_q8
  generalize m_q1 C=Bt at hB ⊢
  generalize (callMV C "size" (m_q2 C) (mArgs (selfB 0) g0))=Sz at hsz ⊢
  generalize wFs ks T (.dT kvs)=F at *
  have c1:dComp 1 [2] (rng1 Sz) (setV 0) (asB (d2 neD (getN 0) (getN 1))) (getV 0) [some (.v (.ins C F)),some (.v (.lst (ps.map .int))),some (.v (.int i)),none,none]=some ((oth n i).map .int):=by
    rw [dComp_ap,rng1_of (hsz _ _) (by lia),Option.bind_some,if_pos (by rw [List.length_map,rngI_len]; lia)]
    exact mapD_filter (ρ:=[none,some (.v (.int i))]) (fun j=>!decide (j=i)) (rngI n) (fun x _=>by
      show (match neD (.int x) (.int i) with | some (.bl b)=>some b | _=>none)=_
      rw [neD_int]) (by simp)
  have c2:mapD (setV 0) dYes (kcE C Bt) [none,some (.v (.lst (ps.map .int))),some (.v (.ins C F)),some (.v (.int i))] ((oth n i).map .int)=some ((oth n i).map (prD ps ts i)):=by
    refine mapD_map D.int _ (oth n i) fun j hj=>⟨[some (.v (.int j)),some (.v (.lst (ps.map .int))),some (.v (.ins C F)),some (.v (.int i))],rfl,rfl,?_⟩
    have h1:=hB j
    have h2:=hS [.v (.int i),.v (.int j)]
    have h3:=hox j (mem_oth.mp hj).1
    unfold prD
    generalize srP (allP i j ts)=V at *
    generalize ps.map D.int=P at *
    simp [kcE,callMV,mArgs,selfB,h2,h1,h3]
  rw [mOf_3,show startD 5 3 [.v (.ins C F),.v (.lst (ps.map .int)),.v (.int i)]=[some (.v (.ins C F)),some (.v (.lst (ps.map .int))),some (.v (.int i)),none,none] from rfl]
  have s3:dSet 3 (asO (asL (dComp 1 [2] (rng1 Sz) (setV 0) (asB (d2 neD (getN 0) (getN 1))) (getV 0)))) [some (.v (.ins C F)),some (.v (.lst (ps.map .int))),some (.v (.int i)),none,none]=some (.nx [some (.v (.ins C F)),some (.v (.lst (ps.map .int))),some (.v (.int i)),some (.v (.lst ((oth n i).map .int))),none]):=by
    rw [dSet_ap,asO_ap,asL_ap,c1]; rfl
  have s4:dSet 4 (asO (asL (dComp 1 [1,0,2] (borOf 3) (setV 0) dYes (kcE C Bt)))) [some (.v (.ins C F)),some (.v (.lst (ps.map .int))),some (.v (.int i)),some (.v (.lst ((oth n i).map .int))),none]=some (.nx [some (.v (.ins C F)),some (.v (.lst (ps.map .int))),some (.v (.int i)),some (.v (.lst ((oth n i).map .int))),some (.v (.lst ((oth n i).map (prD ps ts i))))]):=by
    have hc:dComp 1 [1,0,2] (borOf 3) (setV 0) dYes (kcE C Bt) [some (.v (.ins C F)),some (.v (.lst (ps.map .int))),some (.v (.int i)),some (.v (.lst ((oth n i).map .int))),none]=some ((oth n i).map (prD ps ts i)):=by
      rw [dComp_ap]
      show (if ((oth n i).map D.int).length≤16777216 then mapD (setV 0) dYes (kcE C Bt) [none,some (.v (.lst (ps.map .int))),some (.v (.ins C F)),some (.v (.int i))] ((oth n i).map .int) else none)=_
      rw [if_pos (by rw [List.length_map]; lia),c2]
    rw [dSet_ap,asO_ap,asL_ap,hc]; rfl
  rw [dSeq_nx s3,dSeq_nx s4]
  unfold kyD
  generalize (oth n i).map (prD ps ts i)=L at *
  generalize (oth n i).map D.int=O at *
  generalize ps.map D.int=P at *
  simp [sortL_ap,hso,hoi,itemsD,tupD]
theorem keys_ok (C:Addr) (ks:List Str) (T:D) (kvs:List (List Key×D)) (ts:List T4) (ps:List Int) (n:Int) (hn:1≤n∧n≤7) (hk:(ks.length:Int)=n) (hp:(ps.length:Int)=n) (hJ:JOk kvs ts) :
    m_q9 C [.v (.ins C (wFs ks T (.dT kvs))),.v (.lst (ps.map .int))]=some (.own (.lst (kys ps ts n)) none):=by
  have hK:=fun i h=>key_of_ok C ks T kvs ts ps n i hn hk hp h hJ
  have hsz:=size_at C ks T (.dT kvs) n hk [some (.v (.ins C (wFs ks T (.dT kvs)))),some (.v (.lst (ps.map .int)))] rfl
  unfold m_q9 g_q9
  generalize m_q8 C=Kf at hK ⊢
  generalize (callMV C "size" (m_q2 C) (mArgs (selfB 0) g0))=Sz at hsz ⊢
  generalize wFs ks T (.dT kvs)=F at *
  have c1:mapD (setV 0) dYes (callV Kf (aB 1 (aB 2 (aV (getV 0) (fun _=>some []))))) [none,some (.v (.ins C F)),some (.v (.lst (ps.map .int)))] ((rngI n).map .int)=some (kys ps ts n):=by
    refine mapD_map D.int _ (rngI n) fun j hj=>⟨[some (.v (.int j)),some (.v (.ins C F)),some (.v (.lst (ps.map .int)))],rfl,rfl,?_⟩
    have h1:=hK j (mem_rngI.mp hj)
    generalize kyD ps ts n j=V at *
    generalize ps.map D.int=P at *
    simp [h1,dvD]
  rw [mOf_2,show startD 2 2 [.v (.ins C F),.v (.lst (ps.map .int))]=[some (.v (.ins C F)),some (.v (.lst (ps.map .int)))] from rfl]
  rw [dRetO_ap,asL_ap,dComp_ap,rng1_of hsz (by lia),Option.bind_some,if_pos (by rw [List.length_map,rngI_len]; lia)]
  show retOf (((mapD _ _ _ [none,some (.v (.ins C F)),some (.v (.lst (ps.map .int)))] ((rngI n).map .int)).map OD.lst).map _)=_
  rw [c1]; rfl
theorem finer_ok (C:Addr) (ks:List Str) (T:D) (kvs:List (List Key×D)) (ts:List T4) (ps:List Int) (n:Int) (hn:1≤n∧n≤7) (hk:(ks.length:Int)=n) (hp:(ps.length:Int)=n) (hJ:JOk kvs ts) :
    m_q3 C [.v (.ins C (wFs ks T (.dT kvs))),.v (.lst (ps.map .int))]=some (.own (.lst ((rks (kys ps ts n)).map .int)) none):=by
  have h1:=keys_ok C ks T kvs ts ps n hn hk hp hJ
  have h2:=ranked_ok C (kys ps ts n) (keysOk_kys ps ts n hn) (sortOk_kys ps ts n hn) (cmps_kys ps ts n) (by have:=kys_len ps ts n hn; lia)
  unfold m_q3 g_q3
  generalize m_q9 C=Kf at h1 ⊢
  generalize m_q30 C=Rf at h2 ⊢
  generalize wFs ks T (.dT kvs)=F at *
  generalize kys ps ts n=L at *
  generalize (rks L).map D.int=R at *
  generalize ps.map D.int=P at *
  simp [h1,h2,dvD,dvO,OD.d]
theorem cmps_I (xs:List Int):Cmps 28 (xs.map D.int):=⟨fun d hd=>by obtain ⟨x,_,rfl⟩:=List.mem_map.mp hd; rfl,fun x hx y hy=>by obtain ⟨a,_,rfl⟩:=List.mem_map.mp hx; obtain ⟨b,_,rfl⟩:=List.mem_map.mp hy; rfl⟩
theorem numbers_ok (C:Addr) (xs:List Int) (hl:xs.length≤100):m_q19 C [.v (.lst (xs.map .int)),.v (.lst (xs.map .int))]=some (.v (.bl true)):=by
  have hw:∀ x:Int,m_q27 C [.v (.int x)]=some (.v (.bl true)):=fun x=>rfl
  have e1:eqD (.lst (xs.map .int)) (.lst (xs.map .int))=some (.bl true):=by
    rw [eqD_of (okN_I xs) (okN_I xs),eqd_refl D.int (fun _ _=>rfl)]
  have e2:allD (.lst (xs.map fun _=>D.bl true))=some (.bl true):=by
    have h1:(xs.map fun _=>D.bl true).all isBl=true:=List.all_eq_true.mpr fun d hd=>by obtain ⟨x,_,rfl⟩:=List.mem_map.mp hd; rfl
    have h2:(xs.map fun _=>D.bl true).all trD=true:=List.all_eq_true.mpr fun d hd=>by obtain ⟨x,_,rfl⟩:=List.mem_map.mp hd; rfl
    show (if (xs.map fun _=>D.bl true).all isBl=true then some (D.bl ((xs.map fun _=>D.bl true).all trD)) else none)=_
    rw [if_pos h1,h2]
  unfold m_q19 g_q19
  generalize m_q27 C=Wf at hw ⊢
  have c1:mapD (setV 0) dYes (callV Wf (aB 0 (fun _=>some []))) [none] (xs.map .int)=some (xs.map fun _=>D.bl true):=by
    refine mapD_map D.int _ xs fun x _=>⟨[some (.v (.int x))],rfl,rfl,?_⟩
    simp [hw,dvD]
  have hl2:(xs.map D.int).length≤16777216:=by rw [List.length_map]; lia
  have c2:dComp 1 [] (borOf 0) (setV 0) dYes (callV Wf (aB 0 (fun _=>some []))) [some (.v (.lst (xs.map .int))),some (.v (.lst (xs.map .int)))]=some (xs.map fun _=>D.bl true):=by
    rw [dComp_ap]
    show (if (xs.map D.int).length≤16777216 then mapD _ _ _ [none] (xs.map .int) else none)=_
    rw [if_pos hl2,c1]
  generalize dComp 1 [] (borOf 0) (setV 0) dYes (callV Wf (aB 0 (fun _=>some [])))=Z at c2 ⊢
  generalize (xs.map fun _=>D.bl true)=B at *
  generalize xs.map D.int=X at *
  have e3:isTD "list" (.lst X)=some (.bl true):=rfl
  simp [e1,e2,e3,c2,lenD,OD.d]
theorem parting_ok (C:Addr) (ns:List Int) (n:Int) (hn:1≤n∧n≤7):∃ ps:List Int,(ps.length:Int)=n∧m_q22 C [.v (.lst (ns.map .int)),.v (.int n)]=some (.v (.lst (ps.map .int))):=by
  obtain ⟨x,hx⟩:=at_ok C ns 14 (by decide)
  obtain ⟨q,hq,q0,q1⟩:=spread_ok C x 941083987 (by decide)
  have hsp:=fun c=>spread_ok C c 1726512289 (by decide)
  have hR:=fun ds x hx hc hl=>ranks_ok C ds x hx hc hl
  have m3:=modD_int q 3 (by decide)
  have g0:0≤q % 3:=Int.emod_nonneg _ (by decide)
  unfold m_q22 g_q22
  generalize m_q11 C=A at hx ⊢
  generalize m_q24 C=S at hq hsp ⊢
  generalize m_q23 C=Rk at hR ⊢
  obtain ⟨ys,c1,c2,_⟩:=mapD_good (st:=setV 0) (c:=dYes) (e:=(d2 modD (d2 fdivD (callV S (aV (d2 addA (getR 1) (d2 mulD (getR 0) (getR 0))) (aV (fun _=>some (.int 1726512289)) (fun _=>some [])))) (fun _=>some (.int 5))) (getR 2))) (ρ:=[none,some (.v (.int q)),some (.v (.int (1 + q % 3)))]) D.int (fun _=>True) ((rngI n).map .int) fun d hd=>by
    obtain ⟨j,hj,rfl⟩:=List.mem_map.mp hd
    have hj':=mem_rngI.mp hj
    obtain ⟨r,hr,r0,r1⟩:=hsp (q + j * j)
    have mj:=mulD_int j j (.inl ⟨by lia,by lia⟩)
    have d5:=fdivD_int r 5 (by decide)
    have mm:=modD_int (r / 5) (1 + q % 3) (by lia)
    generalize 1 + q % 3=m at *
    refine ⟨[some (.v (.int j)),some (.v (.int q)),some (.v (.int m))],rfl,rfl,r / 5 % m,?_,trivial⟩
    simp [mj,hr,dvD,d5,mm]
  have hyl:ys.length=n.toNat:=by rw [c2,List.length_map,rngI_len]
  have hr:=hR (ys.map .int) (.v (.lst (ys.map .int))) (.inl rfl) (cmps_I ys) (by rw [List.length_map]; lia)
  refine ⟨rks (ys.map .int),by rw [rks_len,List.length_map]; lia,?_⟩
  have hrg:rng1 (getR 1) [some (.v (.lst (ns.map .int))),some (.v (.int n)),some (.v (.int q)),some (.v (.int (1 + q % 3)))]=some ((rngI n).map .int):=rng1_of rfl (by lia)
  have cc:dComp 1 [2,3] (rng1 (getR 1)) (setV 0) dYes (d2 modD (d2 fdivD (callV S (aV (d2 addA (getR 1) (d2 mulD (getR 0) (getR 0))) (aV (fun _=>some (.int 1726512289)) (fun _=>some [])))) (fun _=>some (.int 5))) (getR 2)) [some (.v (.lst (ns.map .int))),some (.v (.int n)),some (.v (.int q)),some (.v (.int (1 + q % 3)))]=some (ys.map .int):=by
    rw [dComp_ap,hrg,Option.bind_some,if_pos (by rw [List.length_map,rngI_len]; lia)]
    exact c1
  generalize dComp 1 [2,3] (rng1 (getR 1)) (setV 0) dYes (d2 modD (d2 fdivD (callV S (aV (d2 addA (getR 1) (d2 mulD (getR 0) (getR 0))) (aV (fun _=>some (.int 1726512289)) (fun _=>some [])))) (fun _=>some (.int 5))) (getR 2))=Z at cc ⊢
  generalize (rks (ys.map D.int)).map D.int=R at *
  generalize ys.map D.int=Y at *
  generalize ns.map D.int=N at *
  generalize hm:1 + q % 3=m at *
  simp [hx,hq,dvD,m3,hm,cc,hr,OD.d]
theorem mapD_fm {c:DF→Option Bool} {e:DF→Option D} {ρ:DF} (q:Int→Bool) (F:Int→D):∀ xs:List Int,(∀ x∈xs,c (ρ.set 0 (some (.v (.int x))))=some (q x)∧(q x=true→e (ρ.set 0 (some (.v (.int x))))=some (F x)))→mapD (setV 0) c e ρ (xs.map .int)=some ((xs.filter q).map F)
  | [],_=>rfl
  | x::xs,h=>by
    obtain ⟨h1,h2⟩:=h x List.mem_cons_self
    have ih:=mapD_fm q F xs fun y hy=>h y (List.mem_cons_of_mem _ hy)
    rw [List.map_cons]
    unfold mapD
    rw [show setV 0 (D.int x) ρ=some (ρ.set 0 (some (.v (.int x)))) from rfl,Option.bind_some,h1,Option.bind_some,ih]
    cases hq:q x with
    | true=>rw [if_pos rfl,h2 hq,List.filter_cons_of_pos hq]; rfl
    | false=>rw [if_neg Bool.false_ne_true,List.filter_cons_of_neg (by rw [hq]; exact Bool.false_ne_true)]
noncomputable abbrev lkF (N KS TS:List D) (n:Int) (tb:List (List Key×D)) (PS due:List D) (x7 x8 x9 x10 x11:Option DV):DF:=[some (.v (.lst N)),some (.v (.lst KS)),some (.v (.lst TS)),some (.v (.int n)),some (.v (.dT tb)),some (.v (.lst PS)),some (.own (.lst due) none),x7,x8,x9,x10,x11]
theorem lk_a {Wb Tb Pt:List DV→Option DV} {N KS TS PS:List D} {n:Int} {tb:List (List Key×D)} (hW:Wb [.v (.lst N),.v (.int 7),.v (.int 7)]=some (.v (.tup [.lst KS,.lst TS]))) (hkl:(KS.length:Int)=n) (hT:Tb [.v (.lst TS),.v (.int n)]=some (.own (.dT tb) none))
    (hP:Pt [.v (.lst N),.v (.int n)]=some (.v (.lst PS))) (G:DF→Option RES) :
    (dSeq (dSetT [1,2] (callV Wb (aB 0 (aV (fun _=>some (.int 7)) (aV (fun _=>some (.int 7)) (fun _=>some []))))))
    (dSeq (dSet 3 (d1 lenD (getN 1)))
    (dSeq (dSet 4 (callV Tb (aB 2 (aB 3 (fun _=>some [])))))
    (dSeq (dSet 5 (callV Pt (aB 0 (aB 3 (fun _=>some [])))))
    (dSeq (dSetO 6 (asL lnil))
    G))))) [some (.v (.lst N)),none,none,none,none,none,none,none,none,none,none,none]=G (lkF N KS TS n tb PS [] none none none none none):=by
  simp [hW,setT,setsV,hkl,hT,hP]
noncomputable abbrev lkE:DF→Option D:=(asT (lcons (d2 ixD (getR 1) (getR 0)) (lcons (d2 dctGet (getR 2) (asT (lcons (getV 3) (lcons (getV 0) lnil)))) lnil)))
noncomputable abbrev lkB:DF→Option RES:=(dSeq (dSet 8 (asO (asL (dComp 1 [5,4,7] (rng1 (getR 3)) (setV 0) (asB (d2 neD (getN 0) (getN 3))) lkE))))
    (dApp 6 (asT (lcons (d2 ixD (getR 5) (getR 7)) (lcons (d1 tupD (asO (asL (sortL (getR 8))))) lnil)))))
theorem lk_turn {N KS TS:List D} {n:Int} {tb:List (List Key×D)} {ts:List T4} {ps:List Int} {due:List D} {i:Int} {x8:Option DV} (hn:1≤n∧n≤7) (hp:(ps.length:Int)=n) (hS:tbS ts tb fun a b=>(0≤a∧a < n∧0≤b∧b < n)∧a≠b) (hi:0≤i∧i < n) (hd:due.length≤100) :
    ∃ y8,lkB (lkF N KS TS n tb (ps.map .int) due (some (.v (.int i))) x8 none none none)=some (.nx (lkF N KS TS n tb (ps.map .int) (due++[kyD ps ts n i]) (some (.v (.int i))) y8 none none none)):=by
  have hoi:=ox_at (i:=i) hp hi
  have hso:=sortOk_pr ps ts n i hn
  have cm:mapD (setV 0) (asB (d2 neD (getN 0) (getN 3))) lkE [none,some (.v (.lst (ps.map .int))),some (.v (.dT tb)),some (.v (.int i))] ((rngI n).map .int)=some ((oth n i).map (prD ps ts i)):=by
    refine mapD_fm (fun j=>!decide (j=i)) (prD ps ts i) (rngI n) fun j hj=>⟨?_,fun hq=>?_⟩
    · show (match neD (.int j) (.int i) with | some (.bl b)=>some b | _=>none)=_
      rw [neD_int]
    · have hj':=mem_rngI.mp hj
      have hne:i≠j:=fun z=>by subst z; simp at hq
      have hv:valD tb [.inl i,.inl j]=some (srP (allP i j ts)):=hS i j ⟨⟨hi.1,hi.2,hj'.1,hj'.2⟩,hne⟩
      have ho:=ox_at (i:=j) hp hj'
      show lkE [some (.v (.int j)),some (.v (.lst (ps.map .int))),some (.v (.dT tb)),some (.v (.int i))]=_
      unfold prD
      generalize srP (allP i j ts)=V at *
      generalize ps.map D.int=P at *
      simp [lkE,ho,dctGet,keyT,keysOf,dKey,hv]
  have hc:dComp 1 [5,4,7] (rng1 (getR 3)) (setV 0) (asB (d2 neD (getN 0) (getN 3))) lkE (lkF N KS TS n tb (ps.map .int) due (some (.v (.int i))) x8 none none none)=some ((oth n i).map (prD ps ts i)):=by
    rw [dComp_ap,rng1_of (n:=n) rfl (by lia),Option.bind_some,if_pos (by rw [List.length_map,rngI_len]; lia)]
    exact cm
  refine ⟨some (.v (.lst ((oth n i).map (prD ps ts i)))),?_⟩
  have s8:dSet 8 (asO (asL (dComp 1 [5,4,7] (rng1 (getR 3)) (setV 0) (asB (d2 neD (getN 0) (getN 3))) lkE))) (lkF N KS TS n tb (ps.map .int) due (some (.v (.int i))) x8 none none none)=some (.nx (lkF N KS TS n tb (ps.map .int) due (some (.v (.int i))) (some (.v (.lst ((oth n i).map (prD ps ts i))))) none none none)):=by
    rw [dSet_ap,asO_ap,asL_ap,hc]; rfl
  unfold lkB
  rw [dSeq_nx s8]
  have hd':due.length < 16777216:=by lia
  unfold kyD
  generalize (oth n i).map (prD ps ts i)=L at *
  generalize ps.map D.int=P at *
  simp [sortL_ap,hso,hoi,itemsD,tupD,hd']
theorem law_true (C:Addr) (ns:List Int) (hl:ns.length≤63):m_q10 C [.v (.lst (ns.map L2.D.int))]=some (.v (.bl true)):=by
  obtain ⟨n,ks,ts,hn,hk,hs,hW⟩:=web_ok' C ns
  obtain ⟨tb,hT,hS⟩:=table_ok' C n ts hn hs.1
  obtain ⟨kvs,hJ,hmk⟩:=make_J C ks ts n hn hk hs
  obtain ⟨ps,hp,hP⟩:=parting_ok C ns n hn
  have hK:=keys_ok C ks (.lst (srt ts)) kvs ts ps n hn hk.1 hp hJ
  have hF:=finer_ok C ks (.lst (srt ts)) kvs ts ps n hn hk.1 hp hJ
  have hkl7:=kys_len ps ts n hn
  have hR:=ranks_ok C (kys ps ts n) (.bor (.lst (kys ps ts n))) (.inr rfl) (cmps_kys ps ts n) (by lia)
  have hN:=numbers_ok C (rks (kys ps ts n)) (by rw [rks_len]; lia)
  have hkl:((ks.map D.str).length:Int)=n:=by rw [List.length_map]; exact hk.1
  obtain ⟨ρ',e1,x7,x8,hρ⟩:=forD_ix (st:=setV 7) (body:=lkB) (fun k ρ=>∃ x7 x8,ρ=lkF (ns.map .int) (ks.map .str) (ts.map dT4) n tb (ps.map .int) (((rngI n).take k).map (kyD ps ts n)) x7 x8 none none none) ((rngI n).map .int) 0 (lkF (ns.map .int) (ks.map .str) (ts.map dT4) n tb (ps.map .int) [] none none none none none) ⟨none,none,rfl⟩ (by
    rintro j d ρ hd ⟨x7,x8,rfl⟩
    have hdj:=rngI_at hd
    have hj:j < (rngI n).length:=by have:=(List.getElem?_eq_some_iff.mp hd).1; rwa [List.length_map] at this
    have hj2:=hj
    rw [rngI_len] at hj2
    subst hdj
    obtain ⟨y8,e⟩:=lk_turn (N:=ns.map .int) (KS:=ks.map .str) (TS:=ts.map dT4) (due:=((rngI n).take (0 + j)).map (kyD ps ts n)) (x8:=x8) hn hp hS (i:=(j:Int)) ⟨by lia,by lia⟩ (by rw [List.length_map,List.length_take]; lia)
    refine ⟨_,rfl,_,e,some (.v (.int (j:Int))),y8,?_⟩
    have eg:(rngI n)[j]?=some (j:Int):=by
      rw [List.getElem?_map] at hd
      cases z:(rngI n)[j]? with
      | none=>rw [z] at hd; cases hd
      | some v=>rw [z] at hd; cases hd; rfl
    rw [List.take_add_one,Nat.zero_add,eg,List.map_append]; rfl)
  rw [Nat.zero_add,List.length_map,List.take_length] at hρ
  subst hρ
  have nP:neD (.lst (ps.map .int)) (.lst (ps.map .int))=some (.bl false):=by
    rw [neD_of (okN_I ps) (okN_I ps),eqd_refl D.int (fun _ _=>rfl)]; rfl
  have eP:eqD (.lst (ps.map .int)) (.lst (ps.map .int))=some (.bl true):=by
    rw [eqD_of (okN_I ps) (okN_I ps),eqd_refl D.int (fun _ _=>rfl)]
  have nK:neD (.lst (kys ps ts n)) (.lst (kys ps ts n))=some (.bl false):=by
    have ho:okN 30 (.lst (kys ps ts n))=true:=List.all_eq_true.mpr fun d hd=>okN_up (by decide) ((cmps_kys ps ts n).1 d hd)
    have he:eqd (.lst (kys ps ts n)) (.lst (kys ps ts n))=true:=(eqds_iff _ _ (cmpOks_all _ _ fun x hx y hy=>(cmps_kys ps ts n).2 x hx y hy)).mpr rfl
    rw [neD_of ho ho,he]; rfl
  have iK:isTD "list" (.lst (kys ps ts n))=some (.bl true):=rfl
  unfold m_q10 g_q10
  generalize m_q26 C=Wb at hW ⊢
  generalize m_q25 C=Tb at hT ⊢
  generalize m_q22 C=Pt at hP ⊢
  generalize mM_q0 C=mk at hmk ⊢
  generalize m_q9 C=Kf at hK ⊢
  generalize m_q3 C=Ff at hF ⊢
  generalize m_q23 C=Rk at hR ⊢
  generalize m_q19 C=Nu at hN ⊢
  rw [mOf_1,show startD 12 1 [.v (.lst (ns.map .int))]=[some (.v (.lst (ns.map .int))),none,none,none,none,none,none,none,none,none,none,none] from rfl,lk_a hW hkl hT hP]
  have hrg:rng1 (getR 3) (lkF (ns.map .int) (ks.map .str) (ts.map dT4) n tb (ps.map .int) [] none none none none none)=some ((rngI n).map .int):=rng1_of rfl (by lia)
  rw [dSeq_nx (dFor_nx hrg e1)]
  generalize wFs ks (.lst (srt ts)) (.dT kvs)=F at *
  have hm:=hmk (aB 1 (aB 2 (fun _=>some []))) (lkF (ns.map .int) (ks.map .str) (ts.map dT4) n tb (ps.map .int) ((rngI n).map (kyD ps ts n)) x7 x8 none none none) rfl
  generalize makeO C mk (aB 1 (aB 2 (fun _=>some [])))=M at hm ⊢
  change M (lkF (ns.map .int) (ks.map .str) (ts.map dT4) n tb (ps.map .int) (kys ps ts n) x7 x8 none none none)=some (.ins C F) at hm
  show retOf (dSeq _ _ (lkF (ns.map .int) (ks.map .str) (ts.map dT4) n tb (ps.map .int) (kys ps ts n) x7 x8 none none none))=_
  generalize (rks (kys ps ts n)).map D.int=R at *
  generalize kys ps ts n=Ky at *
  generalize ps.map D.int=P at *
  generalize ns.map D.int=N at *
  generalize ks.map D.str=KS at *
  generalize ts.map dT4=TS at *
  simp [hm,hK,hF,hR,hN,nP,eP,nK,iK,dvD,OD.d,itemsD]
noncomputable def spLaw (K:PySem.W.Frag):Sp:=fun vs H Q _=>∃ (a:Addr) (ns:List Int),vs=[.ref a]∧SqL K H a (ns.map V.int)∧ns.length≤63∧∀ H',Q (.bl true) H'
theorem reps_ints {K:PySem.W.Frag} {H:Hp}:∀ ns:List Int,Reps K H (ns.map V.int) (ns.map D.int)
  | []=>.nil
  | _::ns=>.cons .int (reps_ints ns)
theorem spLaw_imp {K:PySem.W.Frag} {m:List DV→Option DV} (hm:∀ ns:List Int,ns.length≤63→m [.v (.lst (ns.map D.int))]=some (.v (.bl true))):∀ vs H Q E,spLaw K vs H Q E→spD K m vs H Q E:=by
  rintro vs H Q E ⟨a,ns,rfl,hS,hl,hQ⟩
  refine ⟨fun _=>none,H,_,_,hm ns hl,⟨fun _ _ e=>e,fun _ _ e=>(by cases e),fun _ _ e=>(by cases e)⟩,.cons rfl (show Rep K H _ _ from .lst hS (reps_ints ns)) .nil,fun v F' H' _ _ r=>?_⟩
  cases r
  exact hQ H'
theorem len_1 {α:Type} {us:List α} (h:us.length=1):∃ a,us=[a]:=List.length_eq_one_iff.mp h
theorem len_2 {α:Type} {us:List α} (h:us.length=2):∃ a1 a2,us=[a1,a2]:=by
  cases us with
  | nil=>cases h
  | cons a r=>
    obtain ⟨a2,rfl⟩:=len_1 (Nat.succ.inj h)
    exact ⟨a,a2,rfl⟩
theorem len_3 {α:Type} {us:List α} (h:us.length=3):∃ a1 a2 a3,us=[a1,a2,a3]:=by
  cases us with
  | nil=>cases h
  | cons a r=>
    obtain ⟨a2,a3,rfl⟩:=len_2 (Nat.succ.inj h)
    exact ⟨a,a2,a3,rfl⟩
theorem len_4 {α:Type} {us:List α} (h:us.length=4):∃ a1 a2 a3 a4,us=[a1,a2,a3,a4]:=by
  cases us with
  | nil=>cases h
  | cons a r=>
    obtain ⟨a2,a3,a4,rfl⟩:=len_3 (Nat.succ.inj h)
    exact ⟨a,a2,a3,a4,rfl⟩
theorem len_5 {α:Type} {us:List α} (h:us.length=5):∃ a1 a2 a3 a4 a5,us=[a1,a2,a3,a4,a5]:=by
  cases us with
  | nil=>cases h
  | cons a r=>
    obtain ⟨a2,a3,a4,a5,rfl⟩:=len_4 (Nat.succ.inj h)
    exact ⟨a,a2,a3,a4,a5,rfl⟩
noncomputable def kE (P:Params) (x:Str) (t:Nat) (v:Value):DictEntry:=⟨PyData.keyHash P x,.str x t,v⟩
noncomputable def fO (n q:Str) (s:Stmt) (m:Str) (t c:Nat):Obj:=⟨.type "function",none,.func (PySem.W.fnOf n q (defArgs s) (defBody s) (defScope s) .none .none .none (.str m t) none (.ref c) .none),#[]⟩
noncomputable def cO (n:Str) (t:Nat) (q:Str) (u v:Nat) (l a f:Int) (r:Nat) (g:Int) (r2 r3:Nat) (h l2:Int) (y:Nat) (c d:Value:=.none):Obj:={ cls:=.type "code",data:=.fields #[.str n t,.str q u,.str "/claim/cut.py" v,.int l 0,.int a 0,.int 0 0,.int 0 0,.int f 0,.ref r,.bool true,.int g 0,.ref r2,.none,c,d,.ref r3,.int h 0,.int l2 0,.str "/claim/cut.py" y] }
noncomputable def kz:Str := "__doc__"
noncomputable def KK:Params→PySem.W.Frag:=fun P=>(fun (_:kz = "__doc__")=>
(nat_lit 3,{ cls:=.type "dict",data:=.dict #[kE P "__name__" 165 (.str "law_tieword_k07_keys_and_a_finer_parting" 411),kE P "__doc__" 166 (.none),kE P "__package__" 167 (.none),kE P "__loader__" 168 (.builtin "__main__.__loader__#opaque"),kE P "__spec__" 169 (.none),kE P "__annotations__" 170 (.ref 6),kE P "__builtins__" 171 (.ref 4),kE P "__file__" 173 (.str "/claim/cut.py" 172),kE P "__cached__" 174 (.none),kE P "_wall" 193 (.ref 21),kE P "ranked" 201 (.ref 26),kE P "key_of" 207 (.ref 31),kE P "keys_of" 213 (.ref 36),kE P "finer" 221 (.ref 43),kE P "WebError" 241 (.ref 53),kE P "TooGreat" 257 (.ref 66),kE P "BadPlace" 273 (.ref 78),kE P "BadTie" 289 (.ref 90),kE P "MOST_PLACES" 293 (.int 7 292),kE P "MOST_TIES" 295 (.int 12 294),kE P "MOST_LETTERS" 297 (.int 3 296),kE P "is_place_kind" 303 (.ref 97),kE P "is_tie_kind" 310 (.ref 104),kE P "is_tie" 319 (.ref 111),kE P "refuse_wrong" 329 (.ref 118),kE P "lesser_first" 336 (.ref 125),kE P "put_pair" 345 (.ref 132),kE P "joins_of" 357 (.ref 139),kE P "Web" 410 (.ref 175),kE P "_law_at" 420 (.ref 186),kE P "_law_spread" 428 (.ref 193),kE P "_law_whole" 435 (.ref 200),kE P "_law_numbers" 441 (.ref 205),kE P "_law_fold" 451 (.ref 212),kE P "_law_kinds" 468 (.ref 219),kE P "_law_crossed" 478 (.ref 226),kE P "_law_halves" 487 (.ref 233),kE P "_law_pairs" 493 (.ref 238),kE P "_law_drawn_ties" 508 (.ref 245),kE P "_law_order" 521 (.ref 252),kE P "_law_false" 527 (.ref 257),kE P "_law_web" 533 (.ref 262),kE P "_law_between" 544 (.ref 269),kE P "_law_table" 555 (.ref 276),kE P "_law_ranks" 561 (.ref 281),kE P "_law_parting" 567 (.ref 286),kE P "law" 573 (.ref 291)] 47 }) ::
(nat_lit 25,cO "ranked" 196 "ranked" 197 198 5 1 3 22 181 23 24 199 5 200) ::
(nat_lit 26,fO "ranked" "ranked" s_q30 "tieword.parting" 194 25) ::
(nat_lit 30,cO "key_of" 202 "key_of" 203 204 8 3 3 27 181 28 29 205 8 206) ::
(nat_lit 31,fO "key_of" "key_of" s_q8 "tieword.parting" 194 30) ::
(nat_lit 35,cO "keys_of" 208 "keys_of" 209 210 12 2 3 32 181 33 34 211 12 212) ::
(nat_lit 36,fO "keys_of" "keys_of" s_q9 "tieword.parting" 194 35) ::
(nat_lit 42,cO "finer" 214 "finer" 215 216 14 2 3 37 181 38 41 219 14 220 (.ref 39) (.ref 40)) ::
(nat_lit 43,fO "finer" "finer" s_q3 "tieword.parting" 194 42) ::
(nat_lit 96,cO "is_place_kind" 298 "is_place_kind" 299 300 29 1 3 93 181 94 95 301 29 302) ::
(nat_lit 97,fO "is_place_kind" "is_place_kind" s_q4 "tieword.webs" 290 96) ::
(nat_lit 103,cO "is_tie_kind" 304 "is_tie_kind" 305 306 32 1 3 98 181 99 102 308 32 309 (.ref 100) (.ref 101)) ::
(nat_lit 104,fO "is_tie_kind" "is_tie_kind" s_q6 "tieword.webs" 290 103) ::
(nat_lit 110,cO "is_tie" 311 "is_tie" 312 313 34 2 3 105 181 106 109 317 34 318 (.ref 107) (.ref 108)) ::
(nat_lit 111,fO "is_tie" "is_tie" s_q5 "tieword.webs" 290 110) ::
(nat_lit 117,cO "refuse_wrong" 320 "refuse_wrong" 321 322 37 2 3 112 181 113 116 327 37 328 (.ref 114) (.ref 115)) ::
(nat_lit 118,fO "refuse_wrong" "refuse_wrong" s_q31 "tieword.webs" 290 117) ::
(nat_lit 124,cO "lesser_first" 330 "lesser_first" 331 332 48 1 3 119 181 120 123 334 48 335 (.ref 121) (.ref 122)) ::
(nat_lit 125,fO "lesser_first" "lesser_first" s_q28 "tieword.webs" 290 124) ::
(nat_lit 131,cO "put_pair" 337 "put_pair" 338 339 52 3 3 126 181 127 130 343 52 344 (.ref 128) (.ref 129)) ::
(nat_lit 132,fO "put_pair" "put_pair" s_q29 "tieword.webs" 290 131) ::
(nat_lit 138,cO "joins_of" 346 "joins_of" 347 348 54 1 3 133 181 134 137 355 54 356 (.ref 135) (.ref 136)) ::
(nat_lit 139,fO "joins_of" "joins_of" s_q7 "tieword.webs" 290 138) ::
(nat_lit 150,cO "__init__" 370 "Web.__init__" 371 372 62 3 3 147 181 148 149 373 62 374) ::
(nat_lit 151,fO "__init__" "Web.__init__" s_q0 "tieword.webs" 290 150) ::
(nat_lit 157,cO "size" 376 "Web.size" 377 378 68 1 3 152 181 153 156 380 68 381 (.ref 154) (.ref 155)) ::
(nat_lit 158,fO "size" "Web.size" s_q2 "tieword.webs" 290 157) ::
(nat_lit 164,cO "between" 383 "Web.between" 384 385 71 3 3 159 181 160 163 389 71 390 (.ref 161) (.ref 162)) ::
(nat_lit 165,fO "between" "Web.between" s_q1 "tieword.webs" 290 164) ::
(nat_lit 174,{ cls:=.type "dict",data:=.dict #[kE P "__module__" 365 (.str "tieword.webs" 290),kE P "__firstlineno__" 369 (.int 60 368),kE P "__init__" 375 (.ref 151),kE P "size" 382 (.ref 158),kE P "between" 391 (.ref 165),kE P "near" 399 (.ref 172),kE P "__static_attributes__" 403 (.ref 173),kE P "__dict__" 405 (.ref 176),kE P "__weakref__" 407 (.ref 177),kE P "__doc__" 408 (.none)] 4 }) ::
(nat_lit 175,{ cls:=.type "type",data:=.cls { name := "Web",bases:=[.type "object"],mro:=[.ref 175,.type "object"],ns:=174,qualname := "Web" },slots:=#[none,none,some (.str "Web" 358),some (.str "Web" 366),some (.builtin "object.__new__"),some (.bool true)] }) ::
(nat_lit 185,cO "_law_at" 413 "_law_at" 414 415 77 2 3 180 181 181 184 418 77 419 (.ref 182) (.ref 183)) ::
(nat_lit 186,fO "_law_at" "_law_at" s_q11 "law_tieword_k07_keys_and_a_finer_parting" 411 185) ::
(nat_lit 192,cO "_law_spread" 421 "_law_spread" 422 423 81 2 3 187 181 188 191 426 81 427 (.ref 189) (.ref 190)) ::
(nat_lit 193,fO "_law_spread" "_law_spread" s_q24 "law_tieword_k07_keys_and_a_finer_parting" 411 192) ::
(nat_lit 199,cO "_law_whole" 429 "_law_whole" 430 431 83 1 3 194 181 195 198 433 83 434 (.ref 196) (.ref 197)) ::
(nat_lit 200,fO "_law_whole" "_law_whole" s_q27 "law_tieword_k07_keys_and_a_finer_parting" 411 199) ::
(nat_lit 204,cO "_law_numbers" 436 "_law_numbers" 437 438 85 2 3 201 181 202 203 439 85 440) ::
(nat_lit 205,fO "_law_numbers" "_law_numbers" s_q19 "law_tieword_k07_keys_and_a_finer_parting" 411 204) ::
(nat_lit 211,cO "_law_fold" 442 "_law_fold" 443 444 89 2 3 206 181 207 210 449 89 450 (.ref 208) (.ref 209)) ::
(nat_lit 212,fO "_law_fold" "_law_fold" s_q16 "law_tieword_k07_keys_and_a_finer_parting" 411 211) ::
(nat_lit 218,cO "_law_kinds" 452 "_law_kinds" 453 454 94 2 3 213 181 214 217 466 94 467 (.ref 215) (.ref 216)) ::
(nat_lit 219,fO "_law_kinds" "_law_kinds" s_q18 "law_tieword_k07_keys_and_a_finer_parting" 411 218) ::
(nat_lit 225,cO "_law_crossed" 469 "_law_crossed" 470 471 112 1 3 220 181 221 224 476 112 477 (.ref 222) (.ref 223)) ::
(nat_lit 226,fO "_law_crossed" "_law_crossed" s_q13 "law_tieword_k07_keys_and_a_finer_parting" 411 225) ::
(nat_lit 232,cO "_law_halves" 479 "_law_halves" 480 481 118 1 3 227 181 228 231 485 118 486 (.ref 229) (.ref 230)) ::
(nat_lit 233,fO "_law_halves" "_law_halves" s_q17 "law_tieword_k07_keys_and_a_finer_parting" 411 232) ::
(nat_lit 237,cO "_law_pairs" 488 "_law_pairs" 489 490 127 2 3 234 181 235 236 491 127 492) ::
(nat_lit 238,fO "_law_pairs" "_law_pairs" s_q21 "law_tieword_k07_keys_and_a_finer_parting" 411 237) ::
(nat_lit 244,cO "_law_drawn_ties" 494 "_law_drawn_ties" 495 496 139 2 3 239 181 240 243 506 139 507 (.ref 241) (.ref 242)) ::
(nat_lit 245,fO "_law_drawn_ties" "_law_drawn_ties" s_q14 "law_tieword_k07_keys_and_a_finer_parting" 411 244) ::
(nat_lit 251,cO "_law_order" 509 "_law_order" 510 511 151 3 3 246 181 247 250 519 151 520 (.ref 248) (.ref 249)) ::
(nat_lit 252,fO "_law_order" "_law_order" s_q20 "law_tieword_k07_keys_and_a_finer_parting" 411 251) ::
(nat_lit 256,cO "_law_false" 522 "_law_false" 523 524 158 5 3 253 181 254 255 525 158 526) ::
(nat_lit 257,fO "_law_false" "_law_false" s_q15 "law_tieword_k07_keys_and_a_finer_parting" 411 256) ::
(nat_lit 261,cO "_law_web" 528 "_law_web" 529 530 171 3 3 258 181 259 260 531 171 532) ::
(nat_lit 262,fO "_law_web" "_law_web" s_q26 "law_tieword_k07_keys_and_a_finer_parting" 411 261) ::
(nat_lit 268,cO "_law_between" 534 "_law_between" 535 536 189 3 3 263 181 264 267 542 189 543 (.ref 265) (.ref 266)) ::
(nat_lit 269,fO "_law_between" "_law_between" s_q12 "law_tieword_k07_keys_and_a_finer_parting" 411 268) ::
(nat_lit 275,cO "_law_table" 545 "_law_table" 546 547 197 2 3 270 181 271 274 553 197 554 (.ref 272) (.ref 273)) ::
(nat_lit 276,fO "_law_table" "_law_table" s_q25 "law_tieword_k07_keys_and_a_finer_parting" 411 275) ::
(nat_lit 280,cO "_law_ranks" 556 "_law_ranks" 557 558 204 1 3 277 181 278 279 559 204 560) ::
(nat_lit 281,fO "_law_ranks" "_law_ranks" s_q23 "law_tieword_k07_keys_and_a_finer_parting" 411 280) ::
(nat_lit 285,cO "_law_parting" 562 "_law_parting" 563 564 210 2 3 282 181 283 284 565 210 566) ::
(nat_lit 286,fO "_law_parting" "_law_parting" s_q22 "law_tieword_k07_keys_and_a_finer_parting" 411 285) ::
(nat_lit 290,cO "law" 568 "law" 569 570 214 1 3 287 181 288 289 571 214 572) ::
(nat_lit 291,fO "law" "law" s_q10 "law_tieword_k07_keys_and_a_finer_parting" 411 290)::[]) rfl
theorem all_mk {l:PySem.W.OpenLaw} {w:World} {K:PySem.W.Frag} {h:Heap} {mg:Str→Option Value} {fa C:Addr} {f_q24:Addr} {od_q24 an_q24:Option Addr} {sl_q24:Array (Option Value)} {oc_q24 kV_q24 dc_q24 pm_q24 cd_q24 ct_q24:Value} {f_q11:Addr} {od_q11 an_q11:Option Addr} {sl_q11:Array (Option Value)} {oc_q11 kV_q11 dc_q11 pm_q11 cd_q11 ct_q11:Value} {f_q16:Addr} {od_q16 an_q16:Option Addr} {sl_q16:Array (Option Value)} {oc_q16 kV_q16 dc_q16 pm_q16 cd_q16 ct_q16:Value} {f_q20:Addr} {od_q20 an_q20:Option Addr} {sl_q20:Array (Option Value)} {oc_q20 kV_q20 dc_q20 pm_q20 cd_q20 ct_q20:Value} {f_q18:Addr} {od_q18 an_q18:Option Addr} {sl_q18:Array (Option Value)} {oc_q18 kV_q18 dc_q18 pm_q18 cd_q18 ct_q18:Value} {f_q15:Addr} {od_q15 an_q15:Option Addr} {sl_q15:Array (Option Value)} {oc_q15 kV_q15 dc_q15 pm_q15 cd_q15 ct_q15:Value} {f_q14:Addr} {od_q14 an_q14:Option Addr} {sl_q14:Array (Option Value)} {oc_q14 kV_q14 dc_q14 pm_q14 cd_q14 ct_q14:Value} {f_q17:Addr} {od_q17 an_q17:Option Addr} {sl_q17:Array (Option Value)} {oc_q17 kV_q17 dc_q17 pm_q17 cd_q17 ct_q17:Value} {f_q13:Addr} {od_q13 an_q13:Option Addr} {sl_q13:Array (Option Value)} {oc_q13 kV_q13 dc_q13 pm_q13 cd_q13 ct_q13:Value} {f_q21:Addr} {od_q21 an_q21:Option Addr} {sl_q21:Array (Option Value)} {oc_q21 kV_q21 dc_q21 pm_q21 cd_q21 ct_q21:Value} {f_q26:Addr} {od_q26 an_q26:Option Addr} {sl_q26:Array (Option Value)} {oc_q26 kV_q26 dc_q26 pm_q26 cd_q26 ct_q26:Value} {f_q12:Addr} {od_q12 an_q12:Option Addr} {sl_q12:Array (Option Value)} {oc_q12 kV_q12 dc_q12 pm_q12 cd_q12 ct_q12:Value} {f_q25:Addr} {od_q25 an_q25:Option Addr} {sl_q25:Array (Option Value)} {oc_q25 kV_q25 dc_q25 pm_q25 cd_q25 ct_q25:Value} {f_q23:Addr} {od_q23 an_q23:Option Addr} {sl_q23:Array (Option Value)} {oc_q23 kV_q23 dc_q23 pm_q23 cd_q23 ct_q23:Value} {f_q22:Addr} {od_q22 an_q22:Option Addr} {sl_q22:Array (Option Value)} {oc_q22 kV_q22 dc_q22 pm_q22 cd_q22 ct_q22:Value} {f_q4:Addr} {od_q4 an_q4:Option Addr} {sl_q4:Array (Option Value)} {oc_q4 kV_q4 dc_q4 pm_q4 cd_q4 ct_q4:Value} {f_q6:Addr} {od_q6 an_q6:Option Addr} {sl_q6:Array (Option Value)} {oc_q6 kV_q6 dc_q6 pm_q6 cd_q6 ct_q6:Value} {f_q5:Addr} {od_q5 an_q5:Option Addr} {sl_q5:Array (Option Value)} {oc_q5 kV_q5 dc_q5 pm_q5 cd_q5 ct_q5:Value} {f_q31:Addr} {od_q31 an_q31:Option Addr} {sl_q31:Array (Option Value)} {oc_q31 kV_q31 dc_q31 pm_q31 cd_q31 ct_q31:Value} {f_q28:Addr} {od_q28 an_q28:Option Addr} {sl_q28:Array (Option Value)} {oc_q28 kV_q28 dc_q28 pm_q28 cd_q28 ct_q28:Value} {f_q29:Addr} {od_q29 an_q29:Option Addr} {sl_q29:Array (Option Value)} {oc_q29 kV_q29 dc_q29 pm_q29 cd_q29 ct_q29:Value} {f_q7:Addr} {od_q7 an_q7:Option Addr} {sl_q7:Array (Option Value)} {oc_q7 kV_q7 dc_q7 pm_q7 cd_q7 ct_q7:Value} {f_q0:Addr} {od_q0 an_q0:Option Addr} {sl_q0:Array (Option Value)} {oc_q0 kV_q0 dc_q0 pm_q0 cd_q0 ct_q0:Value} {f_q2:Addr} {od_q2 an_q2:Option Addr} {sl_q2:Array (Option Value)} {oc_q2 kV_q2 dc_q2 pm_q2 cd_q2 ct_q2:Value} {f_q1:Addr} {od_q1 an_q1:Option Addr} {sl_q1:Array (Option Value)} {oc_q1 kV_q1 dc_q1 pm_q1 cd_q1 ct_q1:Value} {f_q8:Addr} {od_q8 an_q8:Option Addr} {sl_q8:Array (Option Value)} {oc_q8 kV_q8 dc_q8 pm_q8 cd_q8 ct_q8:Value} {f_q9:Addr} {od_q9 an_q9:Option Addr} {sl_q9:Array (Option Value)} {oc_q9 kV_q9 dc_q9 pm_q9 cd_q9 ct_q9:Value} {f_q27:Addr} {od_q27 an_q27:Option Addr} {sl_q27:Array (Option Value)} {oc_q27 kV_q27 dc_q27 pm_q27 cd_q27 ct_q27:Value} {f_q19:Addr} {od_q19 an_q19:Option Addr} {sl_q19:Array (Option Value)} {oc_q19 kV_q19 dc_q19 pm_q19 cd_q19 ct_q19:Value} {f_q30:Addr} {od_q30 an_q30:Option Addr} {sl_q30:Array (Option Value)} {oc_q30 kV_q30 dc_q30 pm_q30 cd_q30 ct_q30:Value} {f_q3:Addr} {od_q3 an_q3:Option Addr} {sl_q3:Array (Option Value)} {oc_q3 kV_q3 dc_q3 pm_q3 cd_q3 ct_q3:Value} {f_q10:Addr} {od_q10 an_q10:Option Addr} {sl_q10:Array (Option Value)} {oc_q10 kV_q10 dc_q10 pm_q10 cd_q10 ct_q10:Value} {tk_MOST_PLACES tk_MOST_TIES tk_MOST_LETTERS:Tok} (X:K.In h) (G:h.Ns mainGlobals mg) (hfa:mg "law"=some (.ref fa))
    (aC:PySem.W.nsIn K mainGlobals "Web"=some (some (.ref C)))
    (a_q24:PySem.W.nsIn K mainGlobals "_law_spread"=some (some (.ref f_q24)))
    (l_q24:K.lookup f_q24=some ⟨oc_q24,od_q24,.func (PySem.W.fnOf "_law_spread" "_law_spread" (defArgs s_q24) (defBody s_q24) (defScope s_q24) .none kV_q24 dc_q24 pm_q24 an_q24 cd_q24 ct_q24),sl_q24⟩)
    (c_q24:PySem.W.codeIn K cd_q24 "_law_spread"=true)
    (k_q24:PySem.W.keepIn K (.ref f_q24)=true)
    (a_q11:PySem.W.nsIn K mainGlobals "_law_at"=some (some (.ref f_q11)))
    (l_q11:K.lookup f_q11=some ⟨oc_q11,od_q11,.func (PySem.W.fnOf "_law_at" "_law_at" (defArgs s_q11) (defBody s_q11) (defScope s_q11) .none kV_q11 dc_q11 pm_q11 an_q11 cd_q11 ct_q11),sl_q11⟩)
    (c_q11:PySem.W.codeIn K cd_q11 "_law_at"=true)
    (k_q11:PySem.W.keepIn K (.ref f_q11)=true)
    (a_q16:PySem.W.nsIn K mainGlobals "_law_fold"=some (some (.ref f_q16)))
    (l_q16:K.lookup f_q16=some ⟨oc_q16,od_q16,.func (PySem.W.fnOf "_law_fold" "_law_fold" (defArgs s_q16) (defBody s_q16) (defScope s_q16) .none kV_q16 dc_q16 pm_q16 an_q16 cd_q16 ct_q16),sl_q16⟩)
    (c_q16:PySem.W.codeIn K cd_q16 "_law_fold"=true)
    (k_q16:PySem.W.keepIn K (.ref f_q16)=true)
    (a_q20:PySem.W.nsIn K mainGlobals "_law_order"=some (some (.ref f_q20)))
    (l_q20:K.lookup f_q20=some ⟨oc_q20,od_q20,.func (PySem.W.fnOf "_law_order" "_law_order" (defArgs s_q20) (defBody s_q20) (defScope s_q20) .none kV_q20 dc_q20 pm_q20 an_q20 cd_q20 ct_q20),sl_q20⟩)
    (c_q20:PySem.W.codeIn K cd_q20 "_law_order"=true)
    (k_q20:PySem.W.keepIn K (.ref f_q20)=true)
    (a_q18:PySem.W.nsIn K mainGlobals "_law_kinds"=some (some (.ref f_q18)))
    (l_q18:K.lookup f_q18=some ⟨oc_q18,od_q18,.func (PySem.W.fnOf "_law_kinds" "_law_kinds" (defArgs s_q18) (defBody s_q18) (defScope s_q18) .none kV_q18 dc_q18 pm_q18 an_q18 cd_q18 ct_q18),sl_q18⟩)
    (c_q18:PySem.W.codeIn K cd_q18 "_law_kinds"=true)
    (k_q18:PySem.W.keepIn K (.ref f_q18)=true)
    (a_q15:PySem.W.nsIn K mainGlobals "_law_false"=some (some (.ref f_q15)))
    (l_q15:K.lookup f_q15=some ⟨oc_q15,od_q15,.func (PySem.W.fnOf "_law_false" "_law_false" (defArgs s_q15) (defBody s_q15) (defScope s_q15) .none kV_q15 dc_q15 pm_q15 an_q15 cd_q15 ct_q15),sl_q15⟩)
    (c_q15:PySem.W.codeIn K cd_q15 "_law_false"=true)
    (k_q15:PySem.W.keepIn K (.ref f_q15)=true)
    (a_q14:PySem.W.nsIn K mainGlobals "_law_drawn_ties"=some (some (.ref f_q14)))
    (l_q14:K.lookup f_q14=some ⟨oc_q14,od_q14,.func (PySem.W.fnOf "_law_drawn_ties" "_law_drawn_ties" (defArgs s_q14) (defBody s_q14) (defScope s_q14) .none kV_q14 dc_q14 pm_q14 an_q14 cd_q14 ct_q14),sl_q14⟩)
    (c_q14:PySem.W.codeIn K cd_q14 "_law_drawn_ties"=true)
    (k_q14:PySem.W.keepIn K (.ref f_q14)=true)
    (a_q17:PySem.W.nsIn K mainGlobals "_law_halves"=some (some (.ref f_q17)))
    (l_q17:K.lookup f_q17=some ⟨oc_q17,od_q17,.func (PySem.W.fnOf "_law_halves" "_law_halves" (defArgs s_q17) (defBody s_q17) (defScope s_q17) .none kV_q17 dc_q17 pm_q17 an_q17 cd_q17 ct_q17),sl_q17⟩)
    (c_q17:PySem.W.codeIn K cd_q17 "_law_halves"=true)
    (k_q17:PySem.W.keepIn K (.ref f_q17)=true)
    (a_q13:PySem.W.nsIn K mainGlobals "_law_crossed"=some (some (.ref f_q13)))
    (l_q13:K.lookup f_q13=some ⟨oc_q13,od_q13,.func (PySem.W.fnOf "_law_crossed" "_law_crossed" (defArgs s_q13) (defBody s_q13) (defScope s_q13) .none kV_q13 dc_q13 pm_q13 an_q13 cd_q13 ct_q13),sl_q13⟩)
    (c_q13:PySem.W.codeIn K cd_q13 "_law_crossed"=true)
    (k_q13:PySem.W.keepIn K (.ref f_q13)=true)
    (a_q21:PySem.W.nsIn K mainGlobals "_law_pairs"=some (some (.ref f_q21)))
    (l_q21:K.lookup f_q21=some ⟨oc_q21,od_q21,.func (PySem.W.fnOf "_law_pairs" "_law_pairs" (defArgs s_q21) (defBody s_q21) (defScope s_q21) .none kV_q21 dc_q21 pm_q21 an_q21 cd_q21 ct_q21),sl_q21⟩)
    (c_q21:PySem.W.codeIn K cd_q21 "_law_pairs"=true)
    (k_q21:PySem.W.keepIn K (.ref f_q21)=true)
    (a_q26:PySem.W.nsIn K mainGlobals "_law_web"=some (some (.ref f_q26)))
    (l_q26:K.lookup f_q26=some ⟨oc_q26,od_q26,.func (PySem.W.fnOf "_law_web" "_law_web" (defArgs s_q26) (defBody s_q26) (defScope s_q26) .none kV_q26 dc_q26 pm_q26 an_q26 cd_q26 ct_q26),sl_q26⟩)
    (c_q26:PySem.W.codeIn K cd_q26 "_law_web"=true)
    (k_q26:PySem.W.keepIn K (.ref f_q26)=true)
    (a_q12:PySem.W.nsIn K mainGlobals "_law_between"=some (some (.ref f_q12)))
    (l_q12:K.lookup f_q12=some ⟨oc_q12,od_q12,.func (PySem.W.fnOf "_law_between" "_law_between" (defArgs s_q12) (defBody s_q12) (defScope s_q12) .none kV_q12 dc_q12 pm_q12 an_q12 cd_q12 ct_q12),sl_q12⟩)
    (c_q12:PySem.W.codeIn K cd_q12 "_law_between"=true)
    (k_q12:PySem.W.keepIn K (.ref f_q12)=true)
    (a_q25:PySem.W.nsIn K mainGlobals "_law_table"=some (some (.ref f_q25)))
    (l_q25:K.lookup f_q25=some ⟨oc_q25,od_q25,.func (PySem.W.fnOf "_law_table" "_law_table" (defArgs s_q25) (defBody s_q25) (defScope s_q25) .none kV_q25 dc_q25 pm_q25 an_q25 cd_q25 ct_q25),sl_q25⟩)
    (c_q25:PySem.W.codeIn K cd_q25 "_law_table"=true)
    (k_q25:PySem.W.keepIn K (.ref f_q25)=true)
    (a_q23:PySem.W.nsIn K mainGlobals "_law_ranks"=some (some (.ref f_q23)))
    (l_q23:K.lookup f_q23=some ⟨oc_q23,od_q23,.func (PySem.W.fnOf "_law_ranks" "_law_ranks" (defArgs s_q23) (defBody s_q23) (defScope s_q23) .none kV_q23 dc_q23 pm_q23 an_q23 cd_q23 ct_q23),sl_q23⟩)
    (c_q23:PySem.W.codeIn K cd_q23 "_law_ranks"=true)
    (k_q23:PySem.W.keepIn K (.ref f_q23)=true)
    (a_q22:PySem.W.nsIn K mainGlobals "_law_parting"=some (some (.ref f_q22)))
    (l_q22:K.lookup f_q22=some ⟨oc_q22,od_q22,.func (PySem.W.fnOf "_law_parting" "_law_parting" (defArgs s_q22) (defBody s_q22) (defScope s_q22) .none kV_q22 dc_q22 pm_q22 an_q22 cd_q22 ct_q22),sl_q22⟩)
    (c_q22:PySem.W.codeIn K cd_q22 "_law_parting"=true)
    (k_q22:PySem.W.keepIn K (.ref f_q22)=true)
    (a_q4:PySem.W.nsIn K mainGlobals "is_place_kind"=some (some (.ref f_q4)))
    (l_q4:K.lookup f_q4=some ⟨oc_q4,od_q4,.func (PySem.W.fnOf "is_place_kind" "is_place_kind" (defArgs s_q4) (defBody s_q4) (defScope s_q4) .none kV_q4 dc_q4 pm_q4 an_q4 cd_q4 ct_q4),sl_q4⟩)
    (c_q4:PySem.W.codeIn K cd_q4 "is_place_kind"=true)
    (k_q4:PySem.W.keepIn K (.ref f_q4)=true)
    (a_q6:PySem.W.nsIn K mainGlobals "is_tie_kind"=some (some (.ref f_q6)))
    (l_q6:K.lookup f_q6=some ⟨oc_q6,od_q6,.func (PySem.W.fnOf "is_tie_kind" "is_tie_kind" (defArgs s_q6) (defBody s_q6) (defScope s_q6) .none kV_q6 dc_q6 pm_q6 an_q6 cd_q6 ct_q6),sl_q6⟩)
    (c_q6:PySem.W.codeIn K cd_q6 "is_tie_kind"=true)
    (k_q6:PySem.W.keepIn K (.ref f_q6)=true)
    (a_q5:PySem.W.nsIn K mainGlobals "is_tie"=some (some (.ref f_q5)))
    (l_q5:K.lookup f_q5=some ⟨oc_q5,od_q5,.func (PySem.W.fnOf "is_tie" "is_tie" (defArgs s_q5) (defBody s_q5) (defScope s_q5) .none kV_q5 dc_q5 pm_q5 an_q5 cd_q5 ct_q5),sl_q5⟩)
    (c_q5:PySem.W.codeIn K cd_q5 "is_tie"=true)
    (k_q5:PySem.W.keepIn K (.ref f_q5)=true)
    (a_q31:PySem.W.nsIn K mainGlobals "refuse_wrong"=some (some (.ref f_q31)))
    (l_q31:K.lookup f_q31=some ⟨oc_q31,od_q31,.func (PySem.W.fnOf "refuse_wrong" "refuse_wrong" (defArgs s_q31) (defBody s_q31) (defScope s_q31) .none kV_q31 dc_q31 pm_q31 an_q31 cd_q31 ct_q31),sl_q31⟩)
    (c_q31:PySem.W.codeIn K cd_q31 "refuse_wrong"=true)
    (k_q31:PySem.W.keepIn K (.ref f_q31)=true)
    (a_q28:PySem.W.nsIn K mainGlobals "lesser_first"=some (some (.ref f_q28)))
    (l_q28:K.lookup f_q28=some ⟨oc_q28,od_q28,.func (PySem.W.fnOf "lesser_first" "lesser_first" (defArgs s_q28) (defBody s_q28) (defScope s_q28) .none kV_q28 dc_q28 pm_q28 an_q28 cd_q28 ct_q28),sl_q28⟩)
    (c_q28:PySem.W.codeIn K cd_q28 "lesser_first"=true)
    (k_q28:PySem.W.keepIn K (.ref f_q28)=true)
    (a_q29:PySem.W.nsIn K mainGlobals "put_pair"=some (some (.ref f_q29)))
    (l_q29:K.lookup f_q29=some ⟨oc_q29,od_q29,.func (PySem.W.fnOf "put_pair" "put_pair" (defArgs s_q29) (defBody s_q29) (defScope s_q29) .none kV_q29 dc_q29 pm_q29 an_q29 cd_q29 ct_q29),sl_q29⟩)
    (c_q29:PySem.W.codeIn K cd_q29 "put_pair"=true)
    (k_q29:PySem.W.keepIn K (.ref f_q29)=true)
    (a_q7:PySem.W.nsIn K mainGlobals "joins_of"=some (some (.ref f_q7)))
    (l_q7:K.lookup f_q7=some ⟨oc_q7,od_q7,.func (PySem.W.fnOf "joins_of" "joins_of" (defArgs s_q7) (defBody s_q7) (defScope s_q7) .none kV_q7 dc_q7 pm_q7 an_q7 cd_q7 ct_q7),sl_q7⟩)
    (c_q7:PySem.W.codeIn K cd_q7 "joins_of"=true)
    (k_q7:PySem.W.keepIn K (.ref f_q7)=true)
    (a_q0:PySem.W.findIn K (.ref C) "__init__"=some (some (.ref f_q0)))
    (i_q0:PySem.W.isFn K (.ref f_q0)=true)
    (l_q0:K.lookup f_q0=some ⟨oc_q0,od_q0,.func (PySem.W.fnOf "__init__" "Web.__init__" (defArgs s_q0) (defBody s_q0) (defScope s_q0) .none kV_q0 dc_q0 pm_q0 an_q0 cd_q0 ct_q0),sl_q0⟩)
    (c_q0:PySem.W.codeIn K cd_q0 "Web.__init__"=true)
    (k_q0:PySem.W.keepIn K (.ref f_q0)=true)
    (a_q2:PySem.W.findIn K (.ref C) "size"=some (some (.ref f_q2)))
    (i_q2:PySem.W.isFn K (.ref f_q2)=true)
    (l_q2:K.lookup f_q2=some ⟨oc_q2,od_q2,.func (PySem.W.fnOf "size" "Web.size" (defArgs s_q2) (defBody s_q2) (defScope s_q2) .none kV_q2 dc_q2 pm_q2 an_q2 cd_q2 ct_q2),sl_q2⟩)
    (c_q2:PySem.W.codeIn K cd_q2 "Web.size"=true)
    (k_q2:PySem.W.keepIn K (.ref f_q2)=true)
    (a_q1:PySem.W.findIn K (.ref C) "between"=some (some (.ref f_q1)))
    (i_q1:PySem.W.isFn K (.ref f_q1)=true)
    (l_q1:K.lookup f_q1=some ⟨oc_q1,od_q1,.func (PySem.W.fnOf "between" "Web.between" (defArgs s_q1) (defBody s_q1) (defScope s_q1) .none kV_q1 dc_q1 pm_q1 an_q1 cd_q1 ct_q1),sl_q1⟩)
    (c_q1:PySem.W.codeIn K cd_q1 "Web.between"=true)
    (k_q1:PySem.W.keepIn K (.ref f_q1)=true)
    (a_q8:PySem.W.nsIn K mainGlobals "key_of"=some (some (.ref f_q8)))
    (l_q8:K.lookup f_q8=some ⟨oc_q8,od_q8,.func (PySem.W.fnOf "key_of" "key_of" (defArgs s_q8) (defBody s_q8) (defScope s_q8) .none kV_q8 dc_q8 pm_q8 an_q8 cd_q8 ct_q8),sl_q8⟩)
    (c_q8:PySem.W.codeIn K cd_q8 "key_of"=true)
    (k_q8:PySem.W.keepIn K (.ref f_q8)=true)
    (a_q9:PySem.W.nsIn K mainGlobals "keys_of"=some (some (.ref f_q9)))
    (l_q9:K.lookup f_q9=some ⟨oc_q9,od_q9,.func (PySem.W.fnOf "keys_of" "keys_of" (defArgs s_q9) (defBody s_q9) (defScope s_q9) .none kV_q9 dc_q9 pm_q9 an_q9 cd_q9 ct_q9),sl_q9⟩)
    (c_q9:PySem.W.codeIn K cd_q9 "keys_of"=true)
    (k_q9:PySem.W.keepIn K (.ref f_q9)=true)
    (a_q27:PySem.W.nsIn K mainGlobals "_law_whole"=some (some (.ref f_q27)))
    (l_q27:K.lookup f_q27=some ⟨oc_q27,od_q27,.func (PySem.W.fnOf "_law_whole" "_law_whole" (defArgs s_q27) (defBody s_q27) (defScope s_q27) .none kV_q27 dc_q27 pm_q27 an_q27 cd_q27 ct_q27),sl_q27⟩)
    (c_q27:PySem.W.codeIn K cd_q27 "_law_whole"=true)
    (k_q27:PySem.W.keepIn K (.ref f_q27)=true)
    (a_q19:PySem.W.nsIn K mainGlobals "_law_numbers"=some (some (.ref f_q19)))
    (l_q19:K.lookup f_q19=some ⟨oc_q19,od_q19,.func (PySem.W.fnOf "_law_numbers" "_law_numbers" (defArgs s_q19) (defBody s_q19) (defScope s_q19) .none kV_q19 dc_q19 pm_q19 an_q19 cd_q19 ct_q19),sl_q19⟩)
    (c_q19:PySem.W.codeIn K cd_q19 "_law_numbers"=true)
    (k_q19:PySem.W.keepIn K (.ref f_q19)=true)
    (a_q30:PySem.W.nsIn K mainGlobals "ranked"=some (some (.ref f_q30)))
    (l_q30:K.lookup f_q30=some ⟨oc_q30,od_q30,.func (PySem.W.fnOf "ranked" "ranked" (defArgs s_q30) (defBody s_q30) (defScope s_q30) .none kV_q30 dc_q30 pm_q30 an_q30 cd_q30 ct_q30),sl_q30⟩)
    (c_q30:PySem.W.codeIn K cd_q30 "ranked"=true)
    (k_q30:PySem.W.keepIn K (.ref f_q30)=true)
    (a_q3:PySem.W.nsIn K mainGlobals "finer"=some (some (.ref f_q3)))
    (l_q3:K.lookup f_q3=some ⟨oc_q3,od_q3,.func (PySem.W.fnOf "finer" "finer" (defArgs s_q3) (defBody s_q3) (defScope s_q3) .none kV_q3 dc_q3 pm_q3 an_q3 cd_q3 ct_q3),sl_q3⟩)
    (c_q3:PySem.W.codeIn K cd_q3 "finer"=true)
    (k_q3:PySem.W.keepIn K (.ref f_q3)=true)
    (a_q10:PySem.W.nsIn K mainGlobals "law"=some (some (.ref f_q10)))
    (l_q10:K.lookup f_q10=some ⟨oc_q10,od_q10,.func (PySem.W.fnOf "law" "law" (defArgs s_q10) (defBody s_q10) (defScope s_q10) .none kV_q10 dc_q10 pm_q10 an_q10 cd_q10 ct_q10),sl_q10⟩)
    (c_q10:PySem.W.codeIn K cd_q10 "law"=true)
    (k_q10:PySem.W.keepIn K (.ref f_q10)=true)
    (pg:PySem.W.plainGet K C Str.empty=true)
    (hd:PySem.W.hasDictIn K C=true)
    (po:PySem.W.plainOver K C=true)
    (sa:PySem.W.findIn K (.ref C) "__setattr__"=some (some (.builtin "object.__setattr__")))
    (mkc:PySem.W.makesIn K C=true)
    (kc:PySem.W.keepIn K (.ref C)=true)
    (n_joins:PySem.W.findIn K (.ref C) "joins"=some none)
    (n_kinds:PySem.W.findIn K (.ref C) "kinds"=some none)
    (n_ties:PySem.W.findIn K (.ref C) "ties"=some none)
    (z_all:PySem.W.nsIn K mainGlobals "all"=some none)
    (z_bool:PySem.W.nsIn K mainGlobals "bool"=some none)
    (z_enumerate:PySem.W.nsIn K mainGlobals "enumerate"=some none)
    (z_int:PySem.W.nsIn K mainGlobals "int"=some none)
    (z_isinstance:PySem.W.nsIn K mainGlobals "isinstance"=some none)
    (z_len:PySem.W.nsIn K mainGlobals "len"=some none)
    (z_list:PySem.W.nsIn K mainGlobals "list"=some none)
    (z_range:PySem.W.nsIn K mainGlobals "range"=some none)
    (z_set:PySem.W.nsIn K mainGlobals "set"=some none)
    (z_sorted:PySem.W.nsIn K mainGlobals "sorted"=some none)
    (z_tuple:PySem.W.nsIn K mainGlobals "tuple"=some none)
    (t_MOST_PLACES:PySem.W.nsIn K mainGlobals "MOST_PLACES"=some (some (.int 7 tk_MOST_PLACES)))
    (t_MOST_TIES:PySem.W.nsIn K mainGlobals "MOST_TIES"=some (some (.int 12 tk_MOST_TIES)))
    (t_MOST_LETTERS:PySem.W.nsIn K mainGlobals "MOST_LETTERS"=some (some (.int 3 tk_MOST_LETTERS))) :
    ∃ fd:FuncData,(∀ (s:Shared) (v:Value),BindsTo s fd ⟨[v],[]⟩ [("_law_script",v)])∧∀ base:Heap,K.In base→base.Ns mainGlobals mg→FnOk l.prog w K mg base CX0 6 fa fd ["_law_script"] (spLaw K):=by
  have e:=hfa.symm.trans (PySem.W.mg_of X G a_q10)
  cases e
  have F_q24:=fun_mk (st:=s_q24) l_q24 c_q24 k_q24
  have B_q24:=F_q24.binds (ps:=["_law_cell", "_law_factor"]) fun _ _ _ _ _ _ us hl=>by obtain ⟨v0,v1,rfl⟩:=len_2 hl; rfl
  have F_q11:=fun_mk (st:=s_q11) l_q11 c_q11 k_q11
  have B_q11:=F_q11.binds (ps:=["_law_script", "_law_k"]) fun _ _ _ _ _ _ us hl=>by obtain ⟨v0,v1,rfl⟩:=len_2 hl; rfl
  have F_q16:=fun_mk (st:=s_q16) l_q16 c_q16 k_q16
  have B_q16:=F_q16.binds (ps:=["_law_script", "_law_bound"]) fun _ _ _ _ _ _ us hl=>by obtain ⟨v0,v1,rfl⟩:=len_2 hl; rfl
  have F_q20:=fun_mk (st:=s_q20) l_q20 c_q20 k_q20
  have B_q20:=F_q20.binds (ps:=["_law_script", "_law_size", "_law_factor"]) fun _ _ _ _ _ _ us hl=>by obtain ⟨v0,v1,v2,rfl⟩:=len_3 hl; rfl
  have F_q18:=fun_mk (st:=s_q18) l_q18 c_q18 k_q18
  have B_q18:=F_q18.binds (ps:=["_law_script", "_law_size"]) fun _ _ _ _ _ _ us hl=>by obtain ⟨v0,v1,rfl⟩:=len_2 hl; rfl
  have F_q15:=fun_mk (st:=s_q15) l_q15 c_q15 k_q15
  have B_q15:=F_q15.binds (ps:=["_law_script", "_law_number", "_law_kind", "_law_oneway", "_law_most"]) fun _ _ _ _ _ _ us hl=>by obtain ⟨v0,v1,v2,v3,v4,rfl⟩:=len_5 hl; rfl
  have F_q14:=fun_mk (st:=s_q14) l_q14 c_q14 k_q14
  have B_q14:=F_q14.binds (ps:=["_law_script", "_law_size"]) fun _ _ _ _ _ _ us hl=>by obtain ⟨v0,v1,rfl⟩:=len_2 hl; rfl
  have F_q17:=fun_mk (st:=s_q17) l_q17 c_q17 k_q17
  have B_q17:=F_q17.binds (ps:=["_law_half"]) fun _ _ _ _ _ _ us hl=>by obtain ⟨v0,rfl⟩:=len_1 hl; rfl
  have F_q13:=fun_mk (st:=s_q13) l_q13 c_q13 k_q13
  have B_q13:=F_q13.binds (ps:=["_law_size"]) fun _ _ _ _ _ _ us hl=>by obtain ⟨v0,rfl⟩:=len_1 hl; rfl
  have F_q21:=fun_mk (st:=s_q21) l_q21 c_q21 k_q21
  have B_q21:=F_q21.binds (ps:=["_law_size", "_law_family"]) fun _ _ _ _ _ _ us hl=>by obtain ⟨v0,v1,rfl⟩:=len_2 hl; rfl
  have F_q26:=fun_mk (st:=s_q26) l_q26 c_q26 k_q26
  have B_q26:=F_q26.binds (ps:=["_law_script", "_law_most", "_law_false_here"]) fun _ _ _ _ _ _ us hl=>by obtain ⟨v0,v1,v2,rfl⟩:=len_3 hl; rfl
  have F_q12:=fun_mk (st:=s_q12) l_q12 c_q12 k_q12
  have B_q12:=F_q12.binds (ps:=["_law_ties", "_law_one", "_law_other"]) fun _ _ _ _ _ _ us hl=>by obtain ⟨v0,v1,v2,rfl⟩:=len_3 hl; rfl
  have F_q25:=fun_mk (st:=s_q25) l_q25 c_q25 k_q25
  have B_q25:=F_q25.binds (ps:=["_law_ties", "_law_size"]) fun _ _ _ _ _ _ us hl=>by obtain ⟨v0,v1,rfl⟩:=len_2 hl; rfl
  have F_q23:=fun_mk (st:=s_q23) l_q23 c_q23 k_q23
  have B_q23:=F_q23.binds (ps:=["_law_keys"]) fun _ _ _ _ _ _ us hl=>by obtain ⟨v0,rfl⟩:=len_1 hl; rfl
  have F_q22:=fun_mk (st:=s_q22) l_q22 c_q22 k_q22
  have B_q22:=F_q22.binds (ps:=["_law_script", "_law_size"]) fun _ _ _ _ _ _ us hl=>by obtain ⟨v0,v1,rfl⟩:=len_2 hl; rfl
  have F_q4:=fun_mk (st:=s_q4) l_q4 c_q4 k_q4
  have B_q4:=F_q4.binds (ps:=["kind"]) fun _ _ _ _ _ _ us hl=>by obtain ⟨v0,rfl⟩:=len_1 hl; rfl
  have F_q6:=fun_mk (st:=s_q6) l_q6 c_q6 k_q6
  have B_q6:=F_q6.binds (ps:=["kind"]) fun _ _ _ _ _ _ us hl=>by obtain ⟨v0,rfl⟩:=len_1 hl; rfl
  have F_q5:=fun_mk (st:=s_q5) l_q5 c_q5 k_q5
  have B_q5:=F_q5.binds (ps:=["tie", "size"]) fun _ _ _ _ _ _ us hl=>by obtain ⟨v0,v1,rfl⟩:=len_2 hl; rfl
  have F_q31:=fun_mk (st:=s_q31) l_q31 c_q31 k_q31
  have B_q31:=F_q31.binds (ps:=["kinds", "ties"]) fun _ _ _ _ _ _ us hl=>by obtain ⟨v0,v1,rfl⟩:=len_2 hl; rfl
  have F_q28:=fun_mk (st:=s_q28) l_q28 c_q28 k_q28
  have B_q28:=F_q28.binds (ps:=["tie"]) fun _ _ _ _ _ _ us hl=>by obtain ⟨v0,rfl⟩:=len_1 hl; rfl
  have F_q29:=fun_mk (st:=s_q29) l_q29 c_q29 k_q29
  have B_q29:=F_q29.binds (ps:=["joins", "ends", "pair"]) fun _ _ _ _ _ _ us hl=>by obtain ⟨v0,v1,v2,rfl⟩:=len_3 hl; rfl
  have F_q7:=fun_mk (st:=s_q7) l_q7 c_q7 k_q7
  have B_q7:=F_q7.binds (ps:=["ties"]) fun _ _ _ _ _ _ us hl=>by obtain ⟨v0,rfl⟩:=len_1 hl; rfl
  have F_q0:=fun_mk (st:=s_q0) l_q0 c_q0 k_q0
  have B_q0:=F_q0.binds (ps:=["self", "kinds", "ties"]) fun _ _ _ _ _ _ us hl=>by obtain ⟨v0,v1,v2,rfl⟩:=len_3 hl; rfl
  have F_q2:=fun_mk (st:=s_q2) l_q2 c_q2 k_q2
  have B_q2:=F_q2.binds (ps:=["self"]) fun _ _ _ _ _ _ us hl=>by obtain ⟨v0,rfl⟩:=len_1 hl; rfl
  have F_q1:=fun_mk (st:=s_q1) l_q1 c_q1 k_q1
  have B_q1:=F_q1.binds (ps:=["self", "one", "other"]) fun _ _ _ _ _ _ us hl=>by obtain ⟨v0,v1,v2,rfl⟩:=len_3 hl; rfl
  have F_q8:=fun_mk (st:=s_q8) l_q8 c_q8 k_q8
  have B_q8:=F_q8.binds (ps:=["web", "parting", "place"]) fun _ _ _ _ _ _ us hl=>by obtain ⟨v0,v1,v2,rfl⟩:=len_3 hl; rfl
  have F_q9:=fun_mk (st:=s_q9) l_q9 c_q9 k_q9
  have B_q9:=F_q9.binds (ps:=["web", "parting"]) fun _ _ _ _ _ _ us hl=>by obtain ⟨v0,v1,rfl⟩:=len_2 hl; rfl
  have F_q27:=fun_mk (st:=s_q27) l_q27 c_q27 k_q27
  have B_q27:=F_q27.binds (ps:=["_law_found"]) fun _ _ _ _ _ _ us hl=>by obtain ⟨v0,rfl⟩:=len_1 hl; rfl
  have F_q19:=fun_mk (st:=s_q19) l_q19 c_q19 k_q19
  have B_q19:=F_q19.binds (ps:=["_law_found", "_law_due"]) fun _ _ _ _ _ _ us hl=>by obtain ⟨v0,v1,rfl⟩:=len_2 hl; rfl
  have F_q30:=fun_mk (st:=s_q30) l_q30 c_q30 k_q30
  have B_q30:=F_q30.binds (ps:=["keys"]) fun _ _ _ _ _ _ us hl=>by obtain ⟨v0,rfl⟩:=len_1 hl; rfl
  have F_q3:=fun_mk (st:=s_q3) l_q3 c_q3 k_q3
  have B_q3:=F_q3.binds (ps:=["web", "parting"]) fun _ _ _ _ _ _ us hl=>by obtain ⟨v0,v1,rfl⟩:=len_2 hl; rfl
  have F_q10:=fun_mk (st:=s_q10) l_q10 c_q10 k_q10
  have B_q10:=F_q10.binds (ps:=["_law_script"]) fun _ _ _ _ _ _ us hl=>by obtain ⟨v0,rfl⟩:=len_1 hl; rfl
  have T:Txt K mg ⟨C,f_q24,_,f_q11,_,f_q16,_,f_q20,_,f_q18,_,f_q15,_,f_q14,_,f_q17,_,f_q13,_,f_q21,_,f_q26,_,f_q12,_,f_q25,_,f_q23,_,f_q22,_,f_q4,_,f_q6,_,f_q5,_,f_q31,_,f_q28,_,f_q29,_,f_q7,_,f_q0,_,f_q2,_,f_q1,_,f_q8,_,f_q9,_,f_q27,_,f_q19,_,f_q30,_,f_q3,_,fa,_,tk_MOST_PLACES,tk_MOST_TIES,tk_MOST_LETTERS⟩:={
    cl:=⟨pg,hd,po,sa⟩
    mkC:=⟨mkc,a_q0,i_q0,kc⟩
    mgC:=PySem.W.mg_of X G aC
    na_joins:=n_joins
    na_kinds:=n_kinds
    na_ties:=n_ties
    fn_q24:=F_q24
    bd_q24:=B_q24
    g_q24:=PySem.W.mg_of X G a_q24
    fn_q11:=F_q11
    bd_q11:=B_q11
    g_q11:=PySem.W.mg_of X G a_q11
    fn_q16:=F_q16
    bd_q16:=B_q16
    g_q16:=PySem.W.mg_of X G a_q16
    fn_q20:=F_q20
    bd_q20:=B_q20
    g_q20:=PySem.W.mg_of X G a_q20
    fn_q18:=F_q18
    bd_q18:=B_q18
    g_q18:=PySem.W.mg_of X G a_q18
    fn_q15:=F_q15
    bd_q15:=B_q15
    g_q15:=PySem.W.mg_of X G a_q15
    fn_q14:=F_q14
    bd_q14:=B_q14
    g_q14:=PySem.W.mg_of X G a_q14
    fn_q17:=F_q17
    bd_q17:=B_q17
    g_q17:=PySem.W.mg_of X G a_q17
    fn_q13:=F_q13
    bd_q13:=B_q13
    g_q13:=PySem.W.mg_of X G a_q13
    fn_q21:=F_q21
    bd_q21:=B_q21
    g_q21:=PySem.W.mg_of X G a_q21
    fn_q26:=F_q26
    bd_q26:=B_q26
    g_q26:=PySem.W.mg_of X G a_q26
    fn_q12:=F_q12
    bd_q12:=B_q12
    g_q12:=PySem.W.mg_of X G a_q12
    fn_q25:=F_q25
    bd_q25:=B_q25
    g_q25:=PySem.W.mg_of X G a_q25
    fn_q23:=F_q23
    bd_q23:=B_q23
    g_q23:=PySem.W.mg_of X G a_q23
    fn_q22:=F_q22
    bd_q22:=B_q22
    g_q22:=PySem.W.mg_of X G a_q22
    fn_q4:=F_q4
    bd_q4:=B_q4
    g_q4:=PySem.W.mg_of X G a_q4
    fn_q6:=F_q6
    bd_q6:=B_q6
    g_q6:=PySem.W.mg_of X G a_q6
    fn_q5:=F_q5
    bd_q5:=B_q5
    g_q5:=PySem.W.mg_of X G a_q5
    fn_q31:=F_q31
    bd_q31:=B_q31
    g_q31:=PySem.W.mg_of X G a_q31
    fn_q28:=F_q28
    bd_q28:=B_q28
    g_q28:=PySem.W.mg_of X G a_q28
    fn_q29:=F_q29
    bd_q29:=B_q29
    g_q29:=PySem.W.mg_of X G a_q29
    fn_q7:=F_q7
    bd_q7:=B_q7
    g_q7:=PySem.W.mg_of X G a_q7
    fn_q0:=F_q0
    bd_q0:=B_q0
    fn_q2:=F_q2
    bd_q2:=B_q2
    mt_q2:=⟨a_q2,i_q2,k_q2⟩
    fn_q1:=F_q1
    bd_q1:=B_q1
    mt_q1:=⟨a_q1,i_q1,k_q1⟩
    fn_q8:=F_q8
    bd_q8:=B_q8
    g_q8:=PySem.W.mg_of X G a_q8
    fn_q9:=F_q9
    bd_q9:=B_q9
    g_q9:=PySem.W.mg_of X G a_q9
    fn_q27:=F_q27
    bd_q27:=B_q27
    g_q27:=PySem.W.mg_of X G a_q27
    fn_q19:=F_q19
    bd_q19:=B_q19
    g_q19:=PySem.W.mg_of X G a_q19
    fn_q30:=F_q30
    bd_q30:=B_q30
    g_q30:=PySem.W.mg_of X G a_q30
    fn_q3:=F_q3
    bd_q3:=B_q3
    g_q3:=PySem.W.mg_of X G a_q3
    fn_q10:=F_q10
    bd_q10:=B_q10
    g_q10:=PySem.W.mg_of X G a_q10
    b_all:=PySem.W.mg_none_of X G z_all
    b_bool:=PySem.W.mg_none_of X G z_bool
    b_enumerate:=PySem.W.mg_none_of X G z_enumerate
    b_int:=PySem.W.mg_none_of X G z_int
    b_isinstance:=PySem.W.mg_none_of X G z_isinstance
    b_len:=PySem.W.mg_none_of X G z_len
    b_list:=PySem.W.mg_none_of X G z_list
    b_range:=PySem.W.mg_none_of X G z_range
    b_set:=PySem.W.mg_none_of X G z_set
    b_sorted:=PySem.W.mg_none_of X G z_sorted
    b_tuple:=PySem.W.mg_none_of X G z_tuple
    c_MOST_PLACES:=PySem.W.mg_of X G t_MOST_PLACES
    c_MOST_TIES:=PySem.W.mg_of X G t_MOST_TIES
    c_MOST_LETTERS:=PySem.W.mg_of X G t_MOST_LETTERS }
  exact ⟨_,fun s v=>.of_eq rfl,fun base _ _=>(ok_q10 T).imp (spLaw_imp (law_true _))⟩
end My
open PySem PySem.W PyProof.Rows
set_option maxRecDepth 100000 in
set_option maxHeartbeats 0 in
theorem PySem.Challenge.cw_tieword_k07_keys_and_a_finer_parting_holds : PySem.Challenge.rw_tieword_k07_keys_and_a_finer_parting.Holds := by
  w_on; refine PySem.W.holds_law (by decide +kernel) fun said=>?_; o_head (PySem.W.kHook My.KK [3,25,26,30,31,35,36,42,43,96,97,103,104,110,111,117,118,124,125,131,132,138,139,150,151,157,158,164,165,174,175,185,186,192,193,199,200,204,205,211,212,218,219,225,226,232,233,237,238,244,245,251,252,256,257,261,262,268,269,275,276,280,281,285,286,290,291] (fun _=>by kernel_rfl)); (case hw=>w_witness2)
  k_fill
  refine L2.walk_ofK (l:=PySem.Challenge.rw_tieword_k07_keys_and_a_finer_parting) (n:=63) (k:=6) (x := "_law_script") (CX:=L2.CX0) (sp:=My.spLaw) rfl (by decide) rfl ⟨rfl,by decide,by decide⟩ (fun w h Y=>PySem.W.kIn_of Y) ?F (fun K H a ns hl _ hS=>⟨a,ns,rfl,hS,hl,fun _=>rfl⟩) fun _ _ _ _ z=>z
  case F=>
    intro w mg fa h KX G hmg
    refine' My.all_mk KX G hmg ..
    all_goals (try k_is)
