import PyProof.Rows.All
import Wide.All
import OpenK.AllK
import Wide.FinOn
import Lean
import PyProof.EqAt
import PyProof.EqKinds
import PyProof.TupleCall
import PyProof.EnumFor
import PyProof.EnumMake
import PyProof.ZipIter
import PyProof.ReprStr
import PyProof.Rows.FStr
import PyProof.StrOps
import PySem.Challenge.RW_tieword_k01_webs
set_option Elab.async false
set_option linter.all false
set_option maxRecDepth 100000
set_option compiler.extract_closed false
set_option bootstrap.genMatcherCode false
set_option genSizeOf false
set_option genSizeOfSpec false
namespace L2
open PySem PySem.Spec PyProof.Rows
noncomputable abbrev Key:=Sum Int Str
noncomputable def keyIs:Key→Value→Bool
  | .inl k,v=>Value.isInt k v
  | .inr x,v=>Value.isStrOf x v
noncomputable def keyH (w:World):Key→Int
  | .inl k=>hashInt k
  | .inr x=>hashStr w x
theorem keyIs_shape:∀ {k:Key} {v:Value},keyIs k v=true→(∃ i t,k=Sum.inl i∧v=Value.int i t)∨(∃ x t,k=Sum.inr x∧v=Value.str x t)
  | .inl i,v,h=>by
    obtain ⟨t,e⟩:=Value.isInt_shape (k:=i) (v:=v) h
    exact .inl ⟨i,t,rfl,e⟩
  | .inr x,v,h=>by
    obtain ⟨t,e⟩:=Value.isStrOf_shape (x:=x) (v:=v) h
    exact .inr ⟨x,t,rfl,e⟩
theorem keyIs_int (i:Int) (t:Tok):keyIs (.inl i) (.int i t)=true:=by simp [keyIs,Value.isInt]
theorem keyIs_str (x:Str) (t:Tok):keyIs (.inr x) (.str x t)=true:=by simp [keyIs,Value.isStrOf]
theorem key_ll (a b:Int):decide ((Sum.inl a:Key)=Sum.inl b)=(a == b):=by
  by_cases e:a=b
  · subst e; simp
  · have h:¬ (Sum.inl a:Key)=Sum.inl b:=fun q=>e (Sum.inl.inj q)
    rw [decide_eq_false h]
    exact (beq_eq_false_iff_ne.mpr e).symm
theorem key_rr (a b:Str):decide ((Sum.inr a:Key)=Sum.inr b)=decide (a=b):=by
  by_cases e:a=b
  · subst e; simp
  · have h:¬ (Sum.inr a:Key)=Sum.inr b:=fun q=>e (Sum.inr.inj q)
    rw [decide_eq_false h,decide_eq_false e]
theorem key_lr (a:Int) (b:Str):decide ((Sum.inl a:Key)=Sum.inr b)=false:=decide_eq_false (fun q=>nomatch q)
theorem key_rl (a:Str) (b:Int):decide ((Sum.inr a:Key)=Sum.inl b)=false:=decide_eq_false (fun q=>nomatch q)
noncomputable def mixKind (prog:Program) (w:World):PySem.KeyKind prog w Key where
  is:=keyIs
  hash:=keyH w
  inj:=fun v a b ha hb=>by
    rcases keyIs_shape ha with ⟨i,t,rfl,rfl⟩ | ⟨x,t,rfl,rfl⟩
    · rcases keyIs_shape hb with ⟨j,u,rfl,e⟩ | ⟨y,u,rfl,e⟩
      · injection e with e1 _; rw [e1]
      · exact nomatch e
    · rcases keyIs_shape hb with ⟨j,u,rfl,e⟩ | ⟨y,u,rfl,e⟩
      · exact nomatch e
      · injection e with e1 _; rw [e1]
  byValue:=fun k v h=>by
    rcases keyIs_shape h with ⟨i,t,rfl,rfl⟩ | ⟨x,t,rfl,rfl⟩ <;> rfl
  pyHash:=fun hv h=>by
    rcases keyIs_shape hv with ⟨i,t,rfl,rfl⟩ | ⟨x,t,rfl,rfl⟩
    · exact wpAny_pyHash_int h
    · exact wpAny_pyHash_str h
  eqBool:=fun hu hv h=>by
    rcases keyIs_shape hu with ⟨i,t,rfl,rfl⟩ | ⟨x,t,rfl,rfl⟩
    · rcases keyIs_shape hv with ⟨j,u,rfl,rfl⟩ | ⟨y,u,rfl,rfl⟩
      · rw [key_ll] at h; exact wpAny_eqBool_int h
      · rw [key_lr] at h; exact SeqAt.EqAt.int_str i t y u _ _ _ _ h
    · rcases keyIs_shape hv with ⟨j,u,rfl,rfl⟩ | ⟨y,u,rfl,rfl⟩
      · rw [key_rl] at h; exact SeqAt.EqAt.str_int x t j u _ _ _ _ h
      · rw [key_rr] at h; exact wpAny_eqBool_str h
  «strs»:=fun k x t v h=>by
    rcases keyIs_shape h with ⟨i,u,rfl,e⟩ | ⟨y,u,rfl,e⟩
    · exact nomatch e
    · injection e with e1 _
      subst e1
      cases v <;> rfl
theorem mixKind_int (prog:Program) (w:World) (i:Int) (t:Tok):(mixKind prog w).is (.inl i) (.int i t)=true:=keyIs_int i t
theorem mixKind_str (prog:Program) (w:World) (x:Str) (t:Tok):(mixKind prog w).is (.inr x) (.str x t)=true:=keyIs_str x t
inductive V where
  | non | bl (b:Bool) | int (i:Int) | str (x:Str) | byt (b:Array UInt8) | flt (b:UInt64) | ref (a:Addr) | ty (n:String)
noncomputable def RelV:V→Value→Prop
  | .non,u=>u=Value.none
  | .bl b,u=>u=Value.bool b
  | .int i,u=>∃ t,u=Value.int i t
  | .str x,u=>∃ t,u=Value.str x t
  | .byt b,u=>∃ t,u=Value.bytes b t
  | .flt b,u=>∃ t,u=Value.float b t
  | .ref a,u=>u=Value.ref a
  | .ty n,u=>u=Value.type n
noncomputable abbrev Vals:List V→List Value→Prop:=Paired RelV
theorem Vals.length {xs:List V} {us:List Value} (r:Vals xs us):xs.length=us.length:=Paired.length r
theorem Vals.get:∀ {xs:List V} {us:List Value} {i:Nat} {x:V},Vals xs us→xs[i]?=some x→∃ u,us[i]?=some u∧RelV x u
  | _,_,_,_,.nil,e=>by simp at e
  | _,_,0,_,.cons r _,e=>by simp at e; subst e; exact ⟨_,rfl,r⟩
  | _,_,i + 1,x,.cons _ t,e=>by
    obtain ⟨u,h1,h2⟩:=Vals.get (i:=i) (x:=x) t (by simpa using e)
    exact ⟨u,by simpa using h1,h2⟩
theorem Vals.set {x:V} {u:Value} (r:RelV x u):∀ {xs:List V} {us:List Value} (i:Nat),Vals xs us→Vals (xs.set i x) (us.set i u)
  | _,_,_,.nil=>.nil
  | _,_,0,.cons _ t=>.cons r t
  | _,_,i + 1,.cons q t=>.cons q (Vals.set r i t)
theorem Vals.append {xs ys:List V} {us ws:List Value} (h:Vals xs us) (s:Vals ys ws):Vals (xs++ys) (us++ws):=by
  induction h with
  | nil=>exact s
  | cons r _ ih=>exact .cons r ih
theorem Vals.take:∀ {xs:List V} {us:List Value} (n:Nat),Vals xs us→Vals (xs.take n) (us.take n)
  | _,_,0,_=>.nil
  | _,_,_ + 1,.nil=>.nil
  | _,_,n + 1,.cons r t=>.cons r (Vals.take n t)
theorem Vals.drop:∀ {xs:List V} {us:List Value} (n:Nat),Vals xs us→Vals (xs.drop n) (us.drop n)
  | _,_,0,r=>r
  | _,_,_ + 1,.nil=>.nil
  | _,_,n + 1,.cons _ t=>Vals.drop n t
noncomputable def RelO:Option V→Option Value→Prop
  | some v,some u=>RelV v u
  | none,none=>True
  | _,_=>False
noncomputable def KV {κ:Type}:List (κ×V)→List (κ×Value)→Prop:=Paired fun (p:κ×V) (q:κ×Value)=>p.1=q.1∧RelV p.2 q.2
noncomputable def kV:Key→V
  | .inl i=>.int i
  | .inr x=>.str x
inductive HO where
  /-- a list -/
  | lst (xs:List V)
  /-- a tuple (never changes) -/
  | tup (xs:List V)
  /-- a dict whose keys are ints and texts; one whose keys are tuples of ints and texts (the empty one is both) -/
  | dK (kvs:List (Key×V)) | dT (kvs:List (List Key×V))
  /-- a set of ints: its members,its size -/
  | set (S:Int→Bool) (n:Nat)
  /-- an instance of the class at C,its dict at dx,its attributes -/
  | ins (C dx:Addr) (fs:List (Str×V))
  /-- the dict of the instance at x -/
  | own (x:Addr)
  /-- the dict of an exception -/
  | xd (fs:List (Str×V))
  /-- a bound method,f of x -/
  | met (f x:Addr)
  /-- a range object lo,lo + 1,.. below hi -/
  | rng (lo hi:Int)
  /-- a thing that is known to the object (the script; a dict while a loop walks it): read,never written while it is so -/
  | frz (o:Obj) (u:HO)
  /-- a code object's table -/
  | tbl (ps:Array Value)
  /-- any other thing,by what is true of its one object (a def of one's own: SetO a S n:=HO.ext fun h=>..) -/
  | ext (φ:Heap→Prop)
noncomputable abbrev Hp:=Addr→Option HO
noncomputable def upd (H:Hp) (a:Addr) (o:HO):Hp:=fun b=>if b=a then some o else H b
theorem upd_same {H:Hp} {a:Addr} {o:HO}:upd H a o a=some o:=by unfold upd; rw [if_pos rfl]
theorem upd_ne {H:Hp} {a b:Addr} {o:HO} (h:b≠a):upd H a o b=H b:=by unfold upd; rw [if_neg h]
theorem ne_of {H:Hp} {a b:Addr} {o u:HO} (h:H a=some o) (h':H b=some u) (d:o≠u):a≠b:=by
  intro e; subst e; rw [h] at h'; exact d (Option.some.inj h')
theorem ne_of_none {H:Hp} {a b:Addr} {o:HO} (h:H a=some o) (h':H b=none):a≠b:=by
  intro e; subst e; rw [h] at h'; cases h'
noncomputable def NoD (h:Heap) (a:Addr):Prop:=∃ o,h.get? a=some o∧o.dict=none
theorem NoD.new (h:Heap) (items:Array Value):NoD (h.push { cls:=.type "tuple",data:=.seq items }) h.objs.size:=⟨_,Heap.get?_push_size _ rfl,rfl⟩
section
variable (P:Program) (w:World)
noncomputable def ObjOk (H:Hp) (h:Heap) (a:Addr):HO→Prop
  | .lst xs=>xs.length≤sizeLine∧∃ (its:List Value) (n:Nat),Vals xs its∧h.get? a=some { cls:=.type "list",data:=.seq its.toArray n }
  | .tup xs=>xs.length≤sizeLine∧∃ its:List Value,Vals xs its∧IsTup h a its.toArray∧NoD h a
  | .dK kvs=>kvs.length≤sizeLine∧(a == sysModules)=false∧∃ vs,KV kvs vs∧h.DictOf (mixKind P w) a vs
  | .dT kvs=>kvs.length≤sizeLine∧(a == sysModules)=false∧∃ xs:List (List Key×Addr×Value),
      Paired (fun (p:List Key×V) (q:List Key×Addr×Value)=>p.1=q.1∧H q.2.1=some (.tup (p.1.map kV))∧RelV p.2 q.2.2) kvs xs ∧
      ∃ o es ep,h.get? a=some o∧o.ExactDict∧o.data=.dict es ep∧es.toList=xs.map (entryOfKey (tupleKind (mixKind P w)))∧(xs.map (·.1)).Nodup
  | .set S n=>h.SetOf (intKind P w) a S n
  | .ins C dx fs=>H dx=some (.own a)∧fs.length≤1000∧dx≠a∧h.get? a=some (PySem.W.instObj C dx) ∧
      ∃ mA,h.Ns1 dx mA∧(∀ f,RelO (fs.lookup f) (mA f))∧PySem.Within mA (fs.map (·.1))
  | .own _=>∃ o,h.get? a=some o
  | .xd fs=>∃ mA,h.Ns1 a mA∧∀ f,RelO (fs.lookup f) (mA f)
  | .rng lo hi=>∃ t u v,h.get? a=some { cls:=.type "range",data:=.fields #[.int lo t,.int hi u,.int 1 v] }
  | .frz o u=>h.get? a=some o∧ObjOk H h a u
  | .tbl ps=>h.get? a=some { cls:=.none,data:=.fields ps }
  | .met f x=>h.get? a=some (PySem.W.methodObj (.ref f) (.ref x))
  | .ext φ=>φ h∧(∃ o,h.get? a=some o)∧∀ h1 h2:Heap,φ h1→(∀ o,h1.get? a=some o→h2.get? a=some o)→φ h2
noncomputable def HOk (H:Hp) (h:Heap):Prop:=∀ a o,H a=some o→ObjOk P w H h a o
end
section
variable {P:Program} {w:World} {H H':Hp} {h h':Heap} {a:Addr} {o:HO}
theorem ObjOk.lt (x:ObjOk P w H h a o):a < h.objs.size:=by
  cases o with
  | lst xs=>obtain ⟨_,_,_,_,e⟩:=x; exact Heap.lt_size e
  | tup xs=>obtain ⟨_,_,_,p,_⟩:=x; exact p.lt
  | dK kvs=>obtain ⟨_,_,_,_,o,_,_,e,_⟩:=x; exact Heap.lt_size e
  | dT kvs=>obtain ⟨_,_,_,_,o,_,_,e,_⟩:=x; exact Heap.lt_size e
  | set S n=>obtain ⟨o,_,_,_,e,_⟩:=x; exact Heap.lt_size e
  | ins C dx fs=>obtain ⟨_,_,_,e,_⟩:=x; exact Heap.lt_size e
  | own y=>obtain ⟨_,e⟩:=x; exact Heap.lt_size e
  | xd fs=>obtain ⟨_,⟨_,_,_,e,_⟩,_⟩:=x; exact Heap.lt_size e
  | rng lo hi=>obtain ⟨_,_,_,e⟩:=x; exact Heap.lt_size e
  | frz ob u=>obtain ⟨e,_⟩:=x; exact Heap.lt_size e
  | tbl ps=>exact Heap.lt_size (show h.get? a=some _ from x)
  | met f y=>exact Heap.lt_size (show h.get? a=some _ from x)
  | ext φ=>obtain ⟨_,⟨_,e⟩,_⟩:=x; exact Heap.lt_size e
theorem Paired.mapP {α β:Type} {F G:α→β→Prop} {l₁:List α} {l₂:List β} (h:Paired F l₁ l₂) (f:∀ a b,F a b→G a b):Paired G l₁ l₂:=by
  induction h with
  | nil=>exact .nil
  | cons r _ ih=>exact .cons (f _ _ r) ih
theorem ObjOk.stay (x:ObjOk P w H h a o) (k:∀ b u,(b=a∨H b=some (.own a))→h.get? b=some u→h'.get? b=some u)
    (ho:∀ b,H b=some (.own a)→H' b=some (.own a)) (ht:∀ b xs,H b=some (.tup xs)→H' b=some (.tup xs)):ObjOk P w H' h' a o:=by
  induction o with
  | lst xs=>obtain ⟨z,its,n,r,e⟩:=x; exact ⟨z,its,n,r,k _ _ (.inl rfl) e⟩
  | tup xs=>obtain ⟨z,its,r,⟨ob,e,c⟩,ob2,e2,c2⟩:=x; exact ⟨z,its,r,⟨ob,k _ _ (.inl rfl) e,c⟩,ob2,k _ _ (.inl rfl) e2,c2⟩
  | dK kvs=>obtain ⟨z,y,vs,r,ob,es,ep,e,c⟩:=x; exact ⟨z,y,vs,r,ob,es,ep,k _ _ (.inl rfl) e,c⟩
  | dT kvs=>
    obtain ⟨z,y,xs,r,ob,es,ep,e,c⟩:=x
    exact ⟨z,y,xs,Paired.mapP r fun p q z=>⟨z.1,ht _ _ z.2.1,z.2.2⟩,ob,es,ep,k _ _ (.inl rfl) e,c⟩
  | set S n=>obtain ⟨ob,es,ep,t,e,c⟩:=x; exact ⟨ob,es,ep,t,k _ _ (.inl rfl) e,c⟩
  | ins C dx fs=>
    obtain ⟨d,z,ne,e,mA,⟨od,es,ep,e2,c⟩,r⟩:=x
    exact ⟨ho _ d,z,ne,k _ _ (.inl rfl) e,mA,⟨od,es,ep,k _ _ (.inr d) e2,c⟩,r⟩
  | own y=>obtain ⟨ob,e⟩:=x; exact ⟨ob,k _ _ (.inl rfl) e⟩
  | xd fs=>obtain ⟨mA,⟨od,es,ep,e,c⟩,r⟩:=x; exact ⟨mA,⟨od,es,ep,k _ _ (.inl rfl) e,c⟩,r⟩
  | rng lo hi=>obtain ⟨t,u,v,e⟩:=x; exact ⟨t,u,v,k _ _ (.inl rfl) e⟩
  | frz ob u ih=>obtain ⟨e,q⟩:=x; exact ⟨k _ _ (.inl rfl) e,ih q⟩
  | tbl ps=>
    have e:h.get? a=some { cls:=.none,data:=.fields ps }:=x
    show h'.get? a=some { cls:=.none,data:=.fields ps }
    exact k a _ (.inl rfl) e
  | met f y=>
    have e:h.get? a=some (PySem.W.methodObj (.ref f) (.ref y)):=x
    show h'.get? a=some (PySem.W.methodObj (.ref f) (.ref y))
    exact k a _ (.inl rfl) e
  | ext φ=>obtain ⟨p,⟨o,e⟩,st⟩:=x; exact ⟨st _ _ p fun o q=>k _ _ (.inl rfl) q,⟨o,k _ _ (.inl rfl) e⟩,st⟩
theorem HOk.lt (x:HOk P w H h) (e:H a=some o):a < h.objs.size:=(x a o e).lt
theorem HOk.fresh (x:HOk P w H h) (e:h.objs.size≤a):H a=none:=by
  cases q:H a with
  | none=>rfl
  | some u=>exact absurd (Nat.lt_of_lt_of_le (x.lt q) e) (Nat.lt_irrefl _)
theorem HOk.kept (x:HOk P w H h) (k:∀ b u,h.get? b=some u→h'.get? b=some u):HOk P w H h':=fun a o e=>
  (x a o e).stay (fun b u _ q=>k b u q) (fun _ q=>q) fun _ _ q=>q
theorem HOk.laid (x:HOk P w H h) (k:∀ b u,h.get? b=some u→h'.get? b=some u) (hp:h.objs.size≤a) (new:ObjOk P w (upd H a o) h' a o):HOk P w (upd H a o) h':=fun b u e=>by
  have hn:=x.fresh hp
  by_cases hb:b=a
  · subst hb; rw [upd_same] at e; cases e; exact new
  · rw [upd_ne hb] at e
    exact (x b u e).stay (fun c v _ q=>k c v q) (fun c q=>by rw [upd_ne (ne_of_none q hn)]; exact q) fun c xs q=>by rw [upd_ne (ne_of_none q hn)]; exact q
end
noncomputable def Rd (H:Hp) (a:Addr) (u:HO):Prop:=H a=some u∨∃ o,H a=some (.frz o u)
theorem Rd.ok {P:Program} {w:World} {H:Hp} {h:Heap} {a:Addr} {u:HO} (r:Rd H a u) (x:HOk P w H h):ObjOk P w H h a u:=by
  rcases r with r | ⟨o,r⟩
  · exact x a u r
  · obtain ⟨_,q⟩:=x a _ r
    exact q
noncomputable def Mut:Option HO→Prop
  | some (.lst _)=>True
  | some (.dK _)=>True
  | some (.dT _)=>True
  | some (.set _ _)=>True
  | some (.ins _ _ _)=>True
  | some (.ext _)=>True
  | _=>False
section
variable {P:Program} {w:World} {H:Hp} {h h':Heap} {x e:Addr} {o':HO}
theorem HOk.write (ok:HOk P w H h) (mu:Mut (H x)) (he:e=x∨H e=some (.own x)) (k:∀ b u,b≠e→h.get? b=some u→h'.get? b=some u) (heo:∃ u,h'.get? e=some u)
    (new:ObjOk P w (upd H x o') h' x o'):HOk P w (upd H x o') h':=fun b u q=>by
  have nown:∀ c y,H c=some (.own y)→c≠x:=fun c y r z=>by subst z; rw [r] at mu; exact mu
  have ntup:∀ c xs,H c=some (.tup xs)→c≠x:=fun c xs r z=>by subst z; rw [r] at mu; exact mu
  by_cases hb:b=x
  · subst hb; rw [upd_same] at q; cases q; exact new
  · rw [upd_ne hb] at q
    by_cases hbe:b=e
    · have q':H b=some (.own x):=by
        rcases he with z | z
        · exact absurd (hbe.trans z) hb
        · rw [hbe]; exact z
      rw [q] at q'; cases q'
      obtain ⟨v,hv⟩:=heo
      exact ⟨v,by rw [hbe]; exact hv⟩
    · refine (ok b u q).stay (fun c v hc r=>k c v ?_ r) (fun c r=>by rw [upd_ne (nown c b r)]; exact r) fun c xs r=>by rw [upd_ne (ntup c xs r)]; exact r
      rcases hc with rfl | hc
      · exact hbe
      · rintro rfl
        rcases he with z | z
        · exact nown c b hc z
        · rw [hc] at z; cases z; exact hb rfl
end
structure Un (fs ex:List Addr) (H H':Hp) (h h':Heap):Prop where
  keep:∀ b o,h.get? b=some o→H b=none→b∉fs→b∉ex→h'.get? b=some o
  slot:∀ b o,h.get? b=some o→H b=none→b∈fs→b∉ex→∃ sl,h'.get? b=some { o with slots:=sl }
  free:∀ b o,h.get? b=some o→H b=none→b∉ex→H' b=none
  there:∀ b o,h.get? b=some o→b∉ex→∃ o',h'.get? b=some o'
  tups:∀ b xs,H b=some (.tup xs)→H' b=some (.tup xs)
  frzs:∀ b o u,H b=some (.frz o u)→H' b=some (.frz o u)
  tbls:∀ b ps,H b=some (.tbl ps)→∃ more,H' b=some (.tbl (ps++more))
section
variable {fs fs' ex ex':List Addr} {H H1 H2:Hp} {h h1 h2 h':Heap} {a x e:Addr} {o:HO}
theorem Un.any (u:Un fs ex H H1 h h1) {b:Addr} {ob:Obj} (q:h.get? b=some ob) (n:H b=none) (hx:b∉ex):∃ sl,h1.get? b=some { ob with slots:=sl }:=by
  by_cases hb:b∈fs
  · exact u.slot b ob q n hb hx
  · exact ⟨ob.slots,u.keep b ob q n hb hx⟩
theorem Un.kept (k:∀ b u,h.get? b=some u→h'.get? b=some u):Un fs ex H H h h':=
  ⟨fun b ob q _ _ _=>k b ob q,fun b ob q _ _ _=>⟨ob.slots,k b ob q⟩,fun _ _ _ n _=>n,fun b ob q _=>⟨ob,k b ob q⟩,fun _ _ q=>q,fun _ _ _ q=>q,fun _ ps q=>⟨#[],by rw [q]; simp⟩⟩
theorem Un.refl:Un fs ex H H h h:=Un.kept fun _ _ q=>q
theorem Un.laid (k:∀ b u,h.get? b=some u→h'.get? b=some u) (hp:h.objs.size≤a) (hn:H a=none):Un fs ex H (upd H a o) h h' where
  keep:=fun b u q _ _ _=>k b u q
  slot:=fun b u q _ _ _=>⟨u.slots,k b u q⟩
  free:=fun b u q n _=>by rw [upd_ne (Nat.ne_of_lt (Nat.lt_of_lt_of_le (Heap.lt_size q) hp))]; exact n
  there:=fun b u q _=>⟨u,k b u q⟩
  tups:=fun b xs q=>by rw [upd_ne (ne_of_none q hn)]; exact q
  frzs:=fun b u xs q=>by rw [upd_ne (ne_of_none q hn)]; exact q
  tbls:=fun b ps q=>⟨#[],by rw [upd_ne (ne_of_none q hn),q]; simp⟩
theorem Un.write (mu:Mut (H x)) (he:e=x∨H e=some (.own x)) (k:∀ b u,b≠e→h.get? b=some u→h'.get? b=some u) (heo:∃ u,h'.get? e=some u):Un fs ex H (upd H x o) h h':=by
  have hx:∀ b,H b=none→b≠x:=fun b n z=>by subst z; rw [n] at mu; exact mu
  have hb:∀ b,H b=none→b≠e:=fun b n z=>by
    subst z
    rcases he with r | r
    · exact hx b n r
    · rw [n] at r; cases r
  have hm:∀ b u,H b=some u→¬ Mut (some u)→b≠x:=fun b u q nm z=>by subst z; rw [q] at mu; exact nm mu
  refine ⟨fun b u q n _ _=>k b u (hb b n) q,fun b u q n _ _=>⟨u.slots,k b u (hb b n) q⟩,fun b u q n _=>by rw [upd_ne (hx b n)]; exact n,fun b u q _=>?_,
    fun b xs q=>by rw [upd_ne (hm b _ q fun z=>z)]; exact q,fun b u xs q=>by rw [upd_ne (hm b _ q fun z=>z)]; exact q,fun b ps q=>⟨#[],by rw [upd_ne (hm b _ q fun z=>z),q]; simp⟩⟩
  by_cases hbe:b=e
  · subst hbe; exact heo
  · exact ⟨u,k b u hbe q⟩
end
noncomputable def trk (h:Heap) (H:Hp):List Addr:=(List.range h.objs.size).filter fun a=>(H a).isSome
noncomputable def hidT (h:Heap) (H:Hp):Heap:=PySem.W.hideAll h (trk h H)
theorem hidT_size (h:Heap) (H:Hp):(hidT h H).objs.size=h.objs.size:=PySem.W.hideAll_size _ _
theorem hidT_get {h:Heap} {H:Hp} {b:Addr} {o:Obj} (e:h.get? b=some o) (n:H b=none):(hidT h H).get? b=some o:=
  PySem.W.hideAll_get _ e fun hm=>by
    have q:(H b).isSome=true:=(List.mem_filter.mp hm).2
    rw [n] at q; simp at q
theorem of_hidT {h:Heap} {H:Hp} {b:Addr} {o:Obj} (e:(hidT h H).get? b=some o):h.get? b=some o∧H b=none:=by
  have e':h.get? b=some o:=PySem.W.of_hideAll (trk h H) e
  refine ⟨e',?_⟩
  cases q:H b with
  | none=>rfl
  | some x=>
    have hm:b∈trk h H:=List.mem_filter.mpr ⟨List.mem_range.mpr (Heap.lt_size e'),by simp [q]⟩
    have z:(hidT h H).get? b=none:=PySem.W.hideAll_none (trk h H) hm
    rw [z] at e; cases e
noncomputable def allNews (g h:Heap) (L:Addr):List (Addr×Obj):=(List.range h.objs.size).filterMap fun a=>if a=L∨(g.get? a).isSome=true then none else (h.get? a).map fun o=>(a,o)
noncomputable def rest (g h:Heap) (L d:Addr):List (Addr×Obj):=(allNews g h L).filter fun p=>decide (p.1≠d)
structure Mod (K:PySem.W.Frag) (mg:Str→Option Value) (base:Heap):Prop where
  kin:K.In base
  glob:base.Ns mainGlobals mg
  blt:∃ mb,base.Ns builtinsNs mb∧∀ x:Str,x ≠ "__name__"→mb x=bootBuiltins x
  nolimit:base.NoLimit
structure Cx where
  prog:Program
  w:World
  K:PySem.W.Frag
  mg:Str→Option Value
  base:Heap
  A:Around
  N:List Str
  s₀:Shared
  H₀:Hp
  env:Env
  outer:List Env
  stack:List Env
  ex:List Addr
  fn:Str→Bool
  calm:Bool
  pn:List (Addr×Obj)
  xe:Value→Shared→Prop
noncomputable def frs (l:List Env):List Addr:=l.filterMap (·.frame)
noncomputable abbrev Cx.fs (X:Cx):List Addr:=frs X.outer
noncomputable def Vis (sc:Scope) (x:Str):Prop:=sc.names.lookup x=some .local∨sc.names.lookup x=some .cell∨sc.names.lookup x=some .free
noncomputable def Loc (sc:Scope) (x:Str):Prop:=sc.names.lookup x=some .local∨sc.names.lookup x=some .cell
noncomputable def Look (env:Env) (h:Heap) (m:Str→Option Value) (x:Str) (u:Value):Prop:=
  (env.kindOf x=some .local∧m x=some u)∨((env.kindOf x=some .cell∨env.kindOf x=some .free)∧∃ c,env.cells.lookup x=some c∧h.IsCell c (some u))
structure Cx.Ok (X:Cx):Prop where
  mod:Mod X.K X.mg X.base
  kind:X.env.scope.kind=.function
  glob:X.env.globals=mainGlobals
  blt:X.env.builtins=builtinsNs
  above:X.s₀.heap.objs.size≤X.env.locals
  inj:∀ x y c,X.env.cells.lookup x=some c→X.env.cells.lookup y=some c→x=y
  has:∀ x,(X.env.kindOf x=some .cell∨X.env.kindOf x=some .free)→∃ c,X.env.cells.lookup x=some c
  cab:∀ x c,X.fn x=true→X.env.cells.lookup x=some c→X.s₀.heap.objs.size≤c
  hd:X.calm=true→X.A.handled=none
  frames:X.A.frames=some X.stack
  stk:X.stack=X.outer∨(X.stack=X.env::X.outer∧X.env.frame=some X.env.locals)
  exf:∀ b∈X.ex,b≠X.env.locals∧∀ x c,X.env.cells.lookup x=some c→c≠b
  bs:∀ b o,X.base.get? b=some o→X.s₀.heap.get? b=some o∧X.H₀ b=none
  bsz:X.base.objs.size≤X.s₀.heap.objs.size
  noex:∀ b o,X.base.get? b=some o→b∉X.ex
  exfs:∀ b∈X.ex,b∉X.fs
  funs:X.s₀.heap.FunFrames X.base X.outer
  frf:∀ b∈X.fs,X.H₀ b=none
structure Inv (X:Cx) (pins:List (Addr×Obj)) (σ:List (Option V)) (H:Hp) (s:Shared):Prop where
  ok:X.Ok
  os:s.os=X.s₀.os
  bare:AllBare s.gens
  base:Un X.fs X.ex X.H₀ H X.s₀.heap s.heap
  loc:∃ m,s.heap.Ns X.env.locals m∧∀ (i:Nat) (x:Str) (v:V),X.N[i]?=some x→σ[i]?=some (some v)→Vis X.env.scope x→∃ u,RelV v u∧Look X.env s.heap m x u
  cell:∀ x c,X.env.cells.lookup x=some c→∃ v,s.heap.IsCell c v
  free:H X.env.locals=none
  freeC:∀ x c,X.env.cells.lookup x=some c→H c=none
  pin:∀ p∈X.pn++pins,s.heap.get? p.1=some p.2∧H p.1=none∧p.1≠X.env.locals∧p.1∉X.fs∧∀ v,p.2.data≠.cell v
  hok:HOk X.prog X.w H s.heap
  len:σ.length=X.N.length
section
variable {X:Cx} {pins:List (Addr×Obj)} {σ:List (Option V)} {H H':Hp} {s:Shared} {h':Heap}
theorem Cx.Ok.nofr (ok:X.Ok) {b:Addr} {o:Obj} (e:X.base.get? b=some o):b∉X.fs:=fun hb=>by
  have:=(ok.funs.mem hb).1
  rw [e] at this; cases this
theorem Inv.bs (I:Inv X pins σ H s):∀ b o,X.base.get? b=some o→s.heap.get? b=some o∧H b=none:=fun b o e=>
  ⟨I.base.keep b o (I.ok.bs b o e).1 (I.ok.bs b o e).2 (I.ok.nofr e) (I.ok.noex b o e),I.base.free b o (I.ok.bs b o e).1 (I.ok.bs b o e).2 (I.ok.noex b o e)⟩
theorem Inv.bk (I:Inv X pins σ H s):∀ b o,X.base.get? b=some o→s.heap.get? b=some o:=fun b o e=>(I.bs b o e).1
theorem Inv.mod (I:Inv X pins σ H s):Mod X.K X.mg X.base:=I.ok.mod
theorem Inv.kIn (I:Inv X pins σ H s):X.K.In s.heap:=I.ok.mod.kin.keeps I.bk
theorem Inv.lt (I:Inv X pins σ H s):X.env.locals < s.heap.objs.size:=let ⟨_,hn,_⟩:=I.loc; hn.lt
theorem Inv.sz (I:Inv X pins σ H s):X.s₀.heap.objs.size≤s.heap.objs.size:=Nat.le_trans I.ok.above (Nat.le_of_lt I.lt)
theorem Inv.nofs (I:Inv X pins σ H s) {a:Addr} (h:s.heap.objs.size≤a):a∉X.fs:=fun hb=>by
  obtain ⟨_,o,ho,_⟩:=I.ok.funs.mem hb
  exact absurd (Nat.lt_of_lt_of_le (Heap.lt_size ho) (Nat.le_trans I.sz h)) (Nat.lt_irrefl _)
theorem Inv.cne (I:Inv X pins σ H s):∀ x c,X.env.cells.lookup x=some c→c≠X.env.locals:=fun x c e z=>by
  obtain ⟨v,o,ho,hd⟩:=I.cell x c e
  obtain ⟨m,⟨o',es,ep,ho',hd',_⟩,_⟩:=I.loc
  rw [z,ho'] at ho; cases ho; rw [hd'] at hd; cases hd
theorem Inv.funs (I:Inv X pins σ H s):s.heap.FunFrames X.base X.outer:=by
  have all:∀ (l:List Env),(∀ b∈frs l,b∈X.fs)→X.s₀.heap.FunFrames X.base l→s.heap.FunFrames X.base l:=by
    intro l
    induction l with
    | nil=>intro _ _; trivial
    | cons env r ih=>
      intro hs hl
      obtain ⟨hk,⟨L,o,hf,hn,ho,hd⟩,hr⟩:=hl
      have hL:L∈X.fs:=hs L (by unfold frs; rw [List.filterMap_cons,hf]; exact List.mem_cons_self)
      obtain ⟨sl,e⟩:=I.base.slot L o ho (I.ok.frf L hL) hL fun z=>I.ok.exfs L z hL
      exact ⟨hk,⟨L,_,hf,hn,e,hd⟩,ih (fun b hb=>hs b (by unfold frs; rw [List.filterMap_cons,hf]; exact List.mem_cons_of_mem _ hb)) hr⟩
  exact all X.outer (fun _ hb=>hb) I.ok.funs
theorem Inv.stack (I:Inv X pins σ H s):s.heap.FunFrames X.base X.stack:=by
  rcases I.ok.stk with e | ⟨e,hf⟩
  · rw [e]; exact I.funs
  · rw [e]
    obtain ⟨m,hn,_⟩:=I.loc
    refine .cons (by rw [I.ok.kind]; decide) hf hn ?_ I.funs
    exact Heap.get?_none_of_le (Nat.le_trans I.ok.bsz I.ok.above)
theorem Inv.stkSub (I:Inv X pins σ H s):∀ b∈frs X.stack,b∈X.env.locals::X.fs:=fun b hb=>by
  rcases I.ok.stk with e | ⟨e,hf⟩
  · rw [e] at hb; exact List.mem_cons_of_mem _ hb
  · rw [e] at hb
    unfold frs at hb
    rw [List.filterMap_cons,hf] at hb
    exact hb
theorem Inv.stkFree (I:Inv X pins σ H s):∀ b∈frs X.stack,H b=none:=fun b hb=>by
  rcases List.mem_cons.mp (I.stkSub b hb) with e | hb
  · rw [e]; exact I.free
  · obtain ⟨_,o,ho,_⟩:=I.ok.funs.mem hb
    exact I.base.free b o ho (I.ok.frf b hb) fun z=>I.ok.exfs b z hb
theorem Inv.step {g':Array GenState} {t':Nat} {d':Drawn} {ch:List Addr} (I:Inv X pins σ H s)
    (hch:∀ b∈ch,(b∈X.ex∨X.s₀.heap.objs.size≤b)∧b≠X.env.locals∧(∀ x c,X.env.cells.lookup x=some c→c≠b)∧∀ p∈X.pn++pins,p.1≠b)
    (keep:∀ b o,b≠X.env.locals→b∉X.fs→b∉ch→s.heap.get? b=some o→H b=none→h'.get? b=some o)
    (slot:∀ b o,b≠X.env.locals→b∈X.fs→b∉ch→s.heap.get? b=some o→H b=none→∃ sl,h'.get? b=some { o with slots:=sl }) (free:∀ b o,b∉ch→s.heap.get? b=some o→H b=none→H' b=none)
    (there:∀ b o,b∉ch→s.heap.get? b=some o→∃ o',h'.get? b=some o')
    (tups:∀ b xs,H b=some (.tup xs)→H' b=some (.tup xs)) (frzs:∀ b o u,H b=some (.frz o u)→H' b=some (.frz o u)) (tbls:∀ b ps,H b=some (.tbl ps)→∃ more,H' b=some (.tbl (ps++more)))
    (ns:∀ m,s.heap.Ns X.env.locals m→h'.Ns X.env.locals m) (hok:HOk X.prog X.w H' h') (hg:AllBare g') :
    Inv X pins σ H' { s with heap:=h',gens:=g',drawn:=d',toks:=t' }:=by
  have neL:∀ b o,X.s₀.heap.get? b=some o→b≠X.env.locals:=fun b o e=>Nat.ne_of_lt (Nat.lt_of_lt_of_le (Heap.lt_size e) I.ok.above)
  have neC:∀ b o,X.s₀.heap.get? b=some o→b∉X.ex→b∉ch:=fun b o e hx hb=>by
    rcases (hch b hb).1 with z | z
    · exact hx z
    · exact absurd (Nat.lt_of_lt_of_le (Heap.lt_size e) z) (Nat.lt_irrefl _)
  have cellK:∀ x c,X.env.cells.lookup x=some c→∀ v,s.heap.IsCell c v→h'.IsCell c v:=fun x c e v hh_=>by
    obtain ⟨o,ho,hd⟩:=hh_
    have nch:c∉ch:=fun z=>(hch c z).2.2.1 x c e rfl
    by_cases hc:c∈X.fs
    · obtain ⟨sl,q⟩:=slot c o (I.cne x c e) hc nch ho (I.freeC x c e)
      exact ⟨_,q,hd⟩
    · exact ⟨o,keep c o (I.cne x c e) hc nch ho (I.freeC x c e),hd⟩
  refine ⟨I.ok,I.os,hg,⟨fun b o e n hb hx=>?_,fun b o e n hb hx=>?_,fun b o e n hx=>?_,fun b o e hx=>?_,fun b xs e=>tups b xs (I.base.tups b xs e),fun b o xs e=>frzs b o xs (I.base.frzs b o xs e),fun b ps e=>?_⟩,?_,fun x c e=>?_,?_,fun x c e=>?_,fun p hp=>?_,hok,I.len⟩
  · exact keep b o (neL b o e) hb (neC b o e hx) (I.base.keep b o e n hb hx) (I.base.free b o e n hx)
  · obtain ⟨sl,e1⟩:=I.base.slot b o e n hb hx
    obtain ⟨sl',e2⟩:=slot b _ (neL b o e) hb (neC b o e hx) e1 (I.base.free b o e n hx)
    exact ⟨sl',e2⟩
  · obtain ⟨o',e1⟩:=I.base.there b o e hx
    exact free b o' (neC b o e hx) e1 (I.base.free b o e n hx)
  · obtain ⟨o',e1⟩:=I.base.there b o e hx
    exact there b o' (neC b o e hx) e1
  · obtain ⟨m1,e1⟩:=I.base.tbls b ps e
    obtain ⟨m2,e2⟩:=tbls b _ e1
    exact ⟨m1++m2,by rw [e2,Array.append_assoc]⟩
  · obtain ⟨m,hn,hl⟩:=I.loc
    refine ⟨m,ns m hn,fun i x v e1 e2 e3=>?_⟩
    obtain ⟨u,r,l⟩:=hl i x v e1 e2 e3
    refine ⟨u,r,?_⟩
    rcases l with l | ⟨k,c,e,z⟩
    · exact .inl l
    · exact .inr ⟨k,c,e,cellK x c e _ z⟩
  · obtain ⟨v,z⟩:=I.cell x c e
    exact ⟨v,cellK x c e v z⟩
  · obtain ⟨m,⟨o,_,_,ho,_⟩,_⟩:=I.loc
    exact free _ o (fun z=>(hch _ z).2.1 rfl) ho I.free
  · obtain ⟨v,o,ho,hd⟩:=I.cell x c e
    exact free c o (fun z=>(hch c z).2.2.1 x c e rfl) ho (I.freeC x c e)
  · obtain ⟨e,n,ne,nf,d⟩:=I.pin p hp
    have nch:p.1∉ch:=fun z=>(hch p.1 z).2.2.2 p hp rfl
    exact ⟨keep p.1 p.2 ne nf nch e n,free p.1 p.2 nch e n,ne,nf,d⟩
theorem Inv.un {t':Nat} (I:Inv X pins σ H s) (u:Un X.fs [] H H' s.heap h') (hok:HOk X.prog X.w H' h'):Inv X pins σ H' { s with heap:=h',toks:=t' }:=by
  obtain ⟨m,⟨o,es,ep,ho,r⟩,_⟩:=id I.loc
  obtain ⟨sl,hL⟩:=u.any ho I.free (by simp)
  exact I.step (g':=s.gens) (d':=s.drawn) (ch:=[]) (fun _ z=>nomatch z) (fun b o _ hb _ e n=>u.keep b o e n hb (by simp)) (fun b o _ hb _ e n=>u.slot b o e n hb (by simp)) (fun b o _ e n=>u.free b o e n (by simp)) (fun b o _ e=>u.there b o e (by simp)) u.tups u.frzs u.tbls (fun m' hm=>by
    obtain ⟨o',es',ep',ho',r'⟩:=hm
    rw [ho] at ho'; cases ho'
    exact ⟨_,es',ep',hL,r'⟩) hok I.bare
theorem Inv.call {g':Array GenState} {t':Nat} {d':Drawn} {ch:List Addr} (I:Inv X pins σ H s) (u:Un (frs X.stack) ch H H' s.heap h') (hok:HOk X.prog X.w H' h') (hg:AllBare g')
    (hch:∀ b∈ch,(b∈X.ex∨X.s₀.heap.objs.size≤b)∧b≠X.env.locals∧(∀ x c,X.env.cells.lookup x=some c→c≠b)∧∀ p∈X.pn++pins,p.1≠b) :
    Inv X pins σ H' { s with heap:=h',gens:=g',drawn:=d',toks:=t' }:=by
  obtain ⟨m,⟨o,es,ep,ho,r⟩,_⟩:=id I.loc
  obtain ⟨sl,hL⟩:=u.any ho I.free fun z=>(hch _ z).2.1 rfl
  exact I.step (ch:=ch) hch (fun b o hL hb hc e n=>u.keep b o e n (fun z=>(List.mem_cons.mp (I.stkSub b z)).elim hL hb) hc) (fun b o _ _ hc e n=>u.any e n hc) (fun b o hc e n=>u.free b o e n hc) (fun b o hc e=>u.there b o e hc) u.tups u.frzs u.tbls (fun m' hm=>by
    obtain ⟨o',es',ep',ho',r'⟩:=hm
    rw [ho] at ho'; cases ho'
    exact ⟨_,es',ep',hL,r'⟩) hok hg
theorem Inv.turned {t':Nat} {it:Addr} (I:Inv X pins σ H s) (k:∀ b o,b≠it→s.heap.get? b=some o→h'.get? b=some o) (hn:H it=none) (hL:it≠X.env.locals)
    (h1:it∈X.ex∨X.s₀.heap.objs.size≤it) (h2:∀ x c,X.env.cells.lookup x=some c→c≠it) (h3:∀ p∈X.pn++pins,p.1≠it):Inv X pins σ H { s with heap:=h',toks:=t' }:=by
  have nit:∀ b u,H b=some u→b≠it:=fun b u e z=>by rw [z,hn] at e; cases e
  refine I.step (g':=s.gens) (d':=s.drawn) (ch:=[it]) (fun b hb=>?_) (fun b o _ _ hc e _=>k b o (fun z=>hc (by simp [z])) e) (fun b o _ _ hc e _=>⟨o.slots,k b o (fun z=>hc (by simp [z])) e⟩) (fun _ _ _ _ n=>n)
    (fun b o hc e=>⟨o,k b o (fun z=>hc (by simp [z])) e⟩) (fun _ _ e=>e) (fun _ _ _ e=>e) (fun b ps e=>⟨#[],by rw [e]; simp⟩) (fun m hm=>?_) (fun b u e=>?_) I.bare
  · have e:b=it:=by simpa using hb
    subst e
    exact ⟨h1,hL,h2,h3⟩
  · obtain ⟨o,es,ep,ho,r⟩:=hm
    exact ⟨o,es,ep,k _ o (Ne.symm hL) ho,r⟩
  · refine (I.hok b u e).stay (fun c v hc q=>k c v ?_ q) (fun _ q=>q) fun _ _ q=>q
    rcases hc with z | z
    · rw [z]; exact nit b u e
    · exact nit c _ z
theorem Inv.tok (I:Inv X pins σ H s) (t:Nat):Inv X pins σ H { s with toks:=t }:=I.un (h':=s.heap) (t':=t) Un.refl I.hok
theorem Inv.kept {t':Nat} (I:Inv X pins σ H s) (k:∀ b u,s.heap.get? b=some u→h'.get? b=some u):Inv X pins σ H { s with heap:=h',toks:=t' }:=I.un (Un.kept k) (I.hok.kept k)
theorem Inv.laid {a:Addr} {o:HO} {t':Nat} (I:Inv X pins σ H s) (k:∀ b u,s.heap.get? b=some u→h'.get? b=some u) (hp:s.heap.objs.size≤a) (new:ObjOk X.prog X.w (upd H a o) h' a o) :
    Inv X pins σ (upd H a o) { s with heap:=h',toks:=t' }:=I.un (Un.laid k hp (I.hok.fresh hp)) (I.hok.laid k hp new)
theorem Inv.write {x e:Addr} {o:HO} {t':Nat} (I:Inv X pins σ H s) (mu:Mut (H x)) (he:e=x∨H e=some (.own x)) (k:∀ b u,b≠e→s.heap.get? b=some u→h'.get? b=some u) (heo:∃ u,h'.get? e=some u)
    (new:ObjOk X.prog X.w (upd H x o) h' x o):Inv X pins σ (upd H x o) { s with heap:=h',toks:=t' }:=I.un (Un.write mu he k heo) (I.hok.write mu he k heo new)
theorem Inv.weak {σ':List (Option V)} (I:Inv X pins σ H s) (hl:σ'.length=σ.length) (w:∀ (i:Nat) v,σ'[i]?=some (some v)→σ[i]?=some (some v)):Inv X pins σ' H s:=
  ⟨I.ok,I.os,I.bare,I.base,let ⟨m,hn,hl'⟩:=I.loc; ⟨m,hn,fun i x v e1 e2 e3=>hl' i x v e1 (w i v e2) e3⟩,I.cell,I.free,I.freeC,I.pin,I.hok,hl.trans I.len⟩
theorem Inv.pins_of {pins':List (Addr×Obj)} (I:Inv X pins σ H s) (h:∀ p∈pins',s.heap.get? p.1=some p.2∧H p.1=none∧p.1≠X.env.locals∧p.1∉X.fs∧∀ v,p.2.data≠.cell v):Inv X pins' σ H s:=
  ⟨I.ok,I.os,I.bare,I.base,I.loc,I.cell,I.free,I.freeC,fun p hp=>(List.mem_append.mp hp).elim (fun z=>I.pin p (List.mem_append_left _ z)) (h p),I.hok,I.len⟩
theorem nodup_ix {N:List Str} (hN:N.Nodup) {i j:Nat} {x:Str} (a:N[i]?=some x) (b:N[j]?=some x):i=j:=by
  obtain ⟨h1,e1⟩:=List.getElem?_eq_some_iff.mp a
  obtain ⟨h2,e2⟩:=List.getElem?_eq_some_iff.mp b
  exact (List.getElem_inj hN).mp (e1.trans e2.symm)
theorem store_ok2 {M:Model} {A:Around} {E:Value→Shared→Prop} {i:Nat} {x:Str} {v:V} {u:Value} {Q:Unit→Shared→Prop} (I:Inv X pins σ H s) (hN:X.N.Nodup) (hi:X.N[i]?=some x) (hx:Loc X.env.scope x) (r:RelV v u)
    (h:∀ s',Inv X pins (σ.set i (some v)) H s'→(∃ a,Heap.SameBut a s.heap s'.heap∧(a=X.env.locals∨X.env.cells.lookup x=some a))→Q () s') (hf:X.fn x=true∨X.env.scope.names.lookup x=some .local:=by first | exact .inl rfl | exact .inr rfl | assumption):wpAny M A (storeName X.env x u) Q E s:=by
  obtain ⟨m,hn,hl⟩:=id I.loc
  have hcls:(X.env.scope.kind == .class||(X.env.scope.kind == .module&&X.env.locals != X.env.globals))=false:=by rw [I.ok.kind]; rfl
  have hiσ:i < σ.length:=by rw [I.len]; exact (List.getElem?_eq_some_iff.mp hi).1
  have cne:=I.cne
  have tracked:∀ {a:Addr} {h':Heap},(∃ o,s.heap.get? a=some o∧H a=none)→Heap.SameBut a s.heap h'→HOk X.prog X.w H h':=fun {a h'} ha hs b ob e=>by
    obtain ⟨_,_,hfree⟩:=ha
    refine (I.hok b ob e).stay (fun c w' hc q=>(hs.2 c ?_).trans q) (fun _ q=>q) fun _ _ q=>q
    rintro rfl
    rcases hc with rfl | hc
    · rw [hfree] at e; cases e
    · rw [hfree] at hc; cases hc
  rcases hx with hk | hk
  · refine wpAny_storeName_local hk hn (fun h' hn' hs=>?_) hcls
    obtain ⟨oL,_,_,hoL,_⟩:=id hn
    refine h _ ⟨I.ok,I.os,I.bare,⟨fun b o e n hb hx=>?_,fun b o e n hb hx=>?_,I.base.free,fun b o e hx=>?_,I.base.tups,I.base.frzs,I.base.tbls⟩,⟨_,hn',fun j y v' e1 e2 e3=>?_⟩,fun y c e=>?_,I.free,I.freeC,fun p hp=>?_,tracked ⟨oL,hoL,I.free⟩ hs,by simpa using I.len⟩ ⟨_,hs,.inl rfl⟩
    · exact (hs.2 b (Nat.ne_of_lt (Nat.lt_of_lt_of_le (Heap.lt_size e) I.ok.above))).trans (I.base.keep b o e n hb hx)
    · obtain ⟨sl,e1⟩:=I.base.slot b o e n hb hx
      exact ⟨sl,(hs.2 b (Nat.ne_of_lt (Nat.lt_of_lt_of_le (Heap.lt_size e) I.ok.above))).trans e1⟩
    · obtain ⟨o',e1⟩:=I.base.there b o e hx
      exact ⟨o',(hs.2 b (Nat.ne_of_lt (Nat.lt_of_lt_of_le (Heap.lt_size e) I.ok.above))).trans e1⟩
    · by_cases hj:j=i
      · subst hj
        rw [hi] at e1; cases e1
        rw [List.getElem?_set_self hiσ] at e2
        cases e2
        exact ⟨u,r,.inl ⟨hk,by simp⟩⟩
      · rw [List.getElem?_set_ne (Ne.symm hj)] at e2
        obtain ⟨u',r',q⟩:=hl j y v' e1 e2 e3
        refine ⟨u',r',?_⟩
        rcases q with ⟨k,e⟩ | ⟨k,c,e,z⟩
        · refine .inl ⟨k,?_⟩
          have:y≠x:=fun e=>hj (nodup_ix hN e1 (e ▸ hi))
          simp [this,e]
        · exact .inr ⟨k,c,e,z.sameBut hs (cne y c e)⟩
    · obtain ⟨w',z⟩:=I.cell y c e
      exact ⟨w',z.sameBut hs (cne y c e)⟩
    · obtain ⟨e,n,ne,nf,d⟩:=I.pin p hp
      exact ⟨(hs.2 p.1 ne).trans e,n,ne,nf,d⟩
  · have hfn:X.fn x=true:=by
      rcases hf with z | z
      · exact z
      · rw [z] at hk; cases hk
    obtain ⟨c,hc⟩:=I.ok.has x (.inl hk)
    obtain ⟨w',z⟩:=I.cell x c hc
    refine wpAny_storeName_cell I.ok.kind hk hc z (fun h' hc' hs=>?_)
    obtain ⟨oc,hoc,hocd⟩:=id z
    refine h { s with heap:=h' } ⟨I.ok,I.os,I.bare,⟨fun b o e n hb hx=>?_,fun b o e n hb hx=>?_,I.base.free,fun b o e hx=>?_,I.base.tups,I.base.frzs,I.base.tbls⟩,⟨m,hn.sameBut hs (Ne.symm (cne x c hc)),fun j y v' e1 e2 e3=>?_⟩,fun y c' e=>?_,I.free,I.freeC,fun p hp=>?_,tracked ⟨oc,hoc,I.freeC x c hc⟩ hs,by simpa using I.len⟩ ⟨c,hs,.inr hc⟩
    · exact (hs.2 b (Nat.ne_of_lt (Nat.lt_of_lt_of_le (Heap.lt_size e) (I.ok.cab x c hfn hc)))).trans (I.base.keep b o e n hb hx)
    · obtain ⟨sl,e1⟩:=I.base.slot b o e n hb hx
      exact ⟨sl,(hs.2 b (Nat.ne_of_lt (Nat.lt_of_lt_of_le (Heap.lt_size e) (I.ok.cab x c hfn hc)))).trans e1⟩
    · obtain ⟨o',e1⟩:=I.base.there b o e hx
      exact ⟨o',(hs.2 b (Nat.ne_of_lt (Nat.lt_of_lt_of_le (Heap.lt_size e) (I.ok.cab x c hfn hc)))).trans e1⟩
    · by_cases hj:j=i
      · subst hj
        rw [hi] at e1; cases e1
        rw [List.getElem?_set_self hiσ] at e2
        cases e2
        exact ⟨u,r,.inr ⟨.inl hk,c,hc,hc'⟩⟩
      · rw [List.getElem?_set_ne (Ne.symm hj)] at e2
        obtain ⟨u',r',q⟩:=hl j y v' e1 e2 e3
        refine ⟨u',r',?_⟩
        rcases q with q | ⟨k,c',e,z'⟩
        · exact .inl q
        · refine .inr ⟨k,c',e,z'.sameBut hs ?_⟩
          rintro rfl
          exact hj (nodup_ix hN e1 (I.ok.inj _ _ _ e hc ▸ hi))
    · by_cases hcc:c'=c
      · subst hcc; exact ⟨_,hc'⟩
      · obtain ⟨w2,z2⟩:=I.cell y c' e
        exact ⟨w2,z2.sameBut hs hcc⟩
    · obtain ⟨e,n,ne,nf,d⟩:=I.pin p hp
      refine ⟨(hs.2 p.1 ?_).trans e,n,ne,nf,d⟩
      intro q
      rw [q,hoc] at e
      have q':oc=p.2:=Option.some.inj e
      exact d w' (by rw [← q']; exact hocd)
theorem store_ok {M:Model} {A:Around} {E:Value→Shared→Prop} {i:Nat} {x:Str} {v:V} {u:Value} {Q:Unit→Shared→Prop} (I:Inv X pins σ H s) (hN:X.N.Nodup) (hi:X.N[i]?=some x) (hx:Loc X.env.scope x) (r:RelV v u)
    (h:∀ s',Inv X pins (σ.set i (some v)) H s'→Q () s') (hf:X.fn x=true∨X.env.scope.names.lookup x=some .local:=by first | exact .inl rfl | exact .inr rfl | assumption):wpAny M A (storeName X.env x u) Q E s:=
  store_ok2 I hN hi hx r (fun s' I' _=>h s' I') hf
theorem Inv.call' {s':Shared} {ch:List Addr} (I:Inv X pins σ H s) (ho:s'.os=s.os) (u:Un (frs X.stack) ch H H' s.heap s'.heap) (hok:HOk X.prog X.w H' s'.heap) (hg:AllBare s'.gens)
    (hch:∀ b∈ch,(b∈X.ex∨X.s₀.heap.objs.size≤b)∧b≠X.env.locals∧(∀ x c,X.env.cells.lookup x=some c→c≠b)∧∀ p∈X.pn++pins,p.1≠b):Inv X pins σ H' s':=by
  obtain ⟨h',g',d',t',o'⟩:=s'
  have e:o'=s.os:=ho
  subst e
  exact I.call (g':=g') (t':=t') (d':=d') u hok hg hch
end
noncomputable abbrev XK:=Value→Option Addr→Hp→Prop
noncomputable abbrev St:=List (Option V)
noncomputable abbrev VK:=V→Hp→Prop
noncomputable abbrev TE:=St→Hp→VK→Prop
noncomputable abbrev TT:=St→Hp→(Bool→Hp→Prop)→Prop
noncomputable abbrev TA:=St→Hp→(List V→Hp→Prop)→Prop
structure Ends where
  nx:St→Hp→Prop
  rt:VK
  bk:St→Hp→Prop:=fun _ _=>False
  ct:St→Hp→Prop:=fun _ _=>False
noncomputable abbrev TS:=Ends→St→Hp→Prop
noncomputable def EP (X:Cx) (pins:List (Addr×Obj)) (σ:St) (Q:VK) (u:Value) (s':Shared):Prop:=∃ v H',Inv X pins σ H' s'∧RelV v u∧Q v H'
noncomputable def TP (X:Cx) (pins:List (Addr×Obj)) (σ:St) (Q:Bool→Hp→Prop) (b:Bool) (s':Shared):Prop:=∃ H',Inv X pins σ H' s'∧Q b H'
noncomputable def AP (X:Cx) (pins:List (Addr×Obj)) (σ:St) (Q:List V→Hp→Prop) (us:List Value) (s':Shared):Prop:=∃ vs H',Inv X pins σ H' s'∧Vals vs us∧Q vs H'
noncomputable def SP (X:Cx) (pins:List (Addr×Obj)) (D:Ends) (f:Flow) (s':Shared):Prop:=
  match f with
  | .next=>∃ σ' H',Inv X pins σ' H' s'∧D.nx σ' H'
  | .brk=>∃ σ' H',Inv X pins σ' H' s'∧D.bk σ' H'
  | .cont=>∃ σ' H',Inv X pins σ' H' s'∧D.ct σ' H'
  | .ret u=>∃ v σ' H',Inv X pins σ' H' s'∧RelV v u∧D.rt v H'
noncomputable def PE (X:Cx) (e:Expr) (t:TE):Prop:=
  ∀ (pins:List (Addr×Obj)) (s:Shared) (σ:St) (H:Hp) (Q:VK),Inv X pins σ H s→t σ H Q→wpAny (model X.prog X.w) X.A (eval e X.env) (EP X pins σ Q) X.xe s
noncomputable def PT (X:Cx) (e:Expr) (t:TT):Prop:=
  ∀ (pins:List (Addr×Obj)) (s:Shared) (σ:St) (H:Hp) (Q:Bool→Hp→Prop),Inv X pins σ H s→t σ H Q→wpAny (model X.prog X.w) X.A (isTrue e X.env (eval e X.env)) (TP X pins σ Q) X.xe s
noncomputable def PW (X:Cx) (e:Expr) (t:TT):Prop:=
  ∀ (whole:Sem Value) (pins:List (Addr×Obj)) (s:Shared) (σ:St) (H:Hp) (Q:Bool→Hp→Prop),Inv X pins σ H s→t σ H Q→wpAny (model X.prog X.w) X.A (isTrue e X.env whole) (TP X pins σ Q) X.xe s
theorem PW.pt {X:Cx} {e:Expr} {t:TT} (h:PW X e t):PT X e t:=h _
noncomputable def PA (X:Cx) (es:List Expr) (t:TA):Prop:=
  ∀ (pos:Pos) (pins:List (Addr×Obj)) (s:Shared) (σ:St) (H:Hp) (Q:List V→Hp→Prop),Inv X pins σ H s→t σ H Q→wpAny (model X.prog X.w) X.A (spliced (backTo pos (starEach es X.env))) (AP X pins σ Q) X.xe s
noncomputable def PS (X:Cx) (st:Stmt) (t:TS):Prop:=
  ∀ (pins:List (Addr×Obj)) (s:Shared) (σ:St) (H:Hp) (D:Ends),Inv X pins σ H s→t D σ H→wpAny (model X.prog X.w) X.A (exec st X.env) (SP X pins D) X.xe s
noncomputable def PSs (X:Cx) (st:List Stmt) (t:TS):Prop:=
  ∀ (pins:List (Addr×Obj)) (s:Shared) (σ:St) (H:Hp) (D:Ends),Inv X pins σ H s→t D σ H→wpAny (model X.prog X.w) X.A (execs st X.env) (SP X pins D) X.xe s
theorem thn {α:Type} {t:Sem α} {Q Q':α→Shared→Prop} {M:Model} {A:Around} {E:Value→Shared→Prop} {s:Shared} (h:wpAny M A t Q E s) (hQ:∀ a s,Q a s→Q' a s):wpAny M A t Q' E s:=wpAny_mono h hQ fun _ _ x=>x
theorem thnG {α β:Type} {X:Cx} {pins:List (Addr×Obj)} {σ:St} {t:Sem β} {R:α→β→Prop} {Q:α→Hp→Prop} {T:β→Shared→Prop} {M:Model} {A:Around} {E:Value→Shared→Prop} {s:Shared}
    (h:wpAny M A t (fun u s1=>∃ x H1,Inv X pins σ H1 s1∧R x u∧Q x H1) E s) (k:∀ u s1 x H1,Inv X pins σ H1 s1→R x u→Q x H1→T u s1):wpAny M A t T E s:=
  thn h fun u s1 z=>by obtain ⟨x,H1,a,b,c⟩:=z; exact k u s1 x H1 a b c
theorem un7 {β γ δ α:Type} {B A Z:β→γ→δ→α→Prop} {C:Prop} (k:∀ P F ρ d,B P F ρ d→A P F ρ d→Z P F ρ d→C) (h:∃ P F ρ d,B P F ρ d∧A P F ρ d∧Z P F ρ d):C:=by
  obtain ⟨P,F,ρ,d,a,b,c⟩:=h; exact k P F ρ d a b c
section
variable {X:Cx}
noncomputable def tVar (i:Nat):TE:=fun σ H Q=>∃ v,σ[i]?=some (some v)∧Q v H
noncomputable def tC (v:V):TE:=fun _ H Q=>Q v H
theorem pe_var {i:Nat} {x:Str} {pos:Pos} (hN:X.N[i]?=some x) (hv:Vis X.env.scope x) (hd:(x == ("__debug__":Str))=false:=by decide) (hcd:(x == ("__classdict__":Str))=false:=by decide):PE X (.Name x pos) (tVar i):=by
  intro pins s σ H Q I h
  obtain ⟨v,e,h⟩:=h
  obtain ⟨m,hn,hl⟩:=I.loc
  obtain ⟨u,r,l⟩:=hl i x v hN e hv
  have fin:EP X pins σ Q u s:=⟨v,H,I,r,h⟩
  rcases l with ⟨hk,hm⟩ | ⟨hk,c,hc,hcell⟩
  · exact wpAny_Name (wpAny_loadName_local I.ok.kind hk hn hm fin) hd
  · rcases hk with hk | hk
    · exact wpAny_Name (wpAny_loadName_cell I.ok.kind hk hc hcell fin) hd
    · exact wpAny_Name (wpAny_loadName_free I.ok.kind hk hc hcell fin hcd) hd
theorem pe_int {i j pos}:PE X (.Constant (.int i) j pos) (tC (.int i)):=fun _ _ _ H _ I h=>wpAny_Constant_int ⟨.int i,H,I.tok _,⟨_,rfl⟩,h⟩
theorem pe_bl {b j pos}:PE X (.Constant (.bool b) j pos) (tC (.bl b)):=fun _ _ _ H _ I h=>Constant_bool ⟨.bl b,H,I,rfl,h⟩
theorem pe_non {j pos}:PE X (.Constant .none j pos) (tC .non):=fun _ _ _ H _ I h=>Constant_none ⟨.non,H,I,rfl,h⟩
theorem pe_str {x j pos}:PE X (.Constant (.str x) j pos) (tC (.str x)):=fun _ _ _ H _ I h=>Calls.Constant_str ⟨.str x,H,I.tok _,⟨_,rfl⟩,h⟩
noncomputable def Gl (X:Cx) (x:Str):Prop:=X.env.kindOf x=some .globalImplicit
theorem ld_glob {E:Value→Shared→Prop} {pins:List (Addr×Obj)} {s:Shared} {σ:St} {H:Hp} {x:Str} {u:Value} {pos:Pos} {Q:Value→Shared→Prop} (I:Inv X pins σ H s) (hg:Gl X x) (hm:X.mg x=some u) (h:Q u s)
    (hd:(x == ("__debug__":Str))=false:=by decide):wpAny (model X.prog X.w) X.A (eval (.Name x pos) X.env) Q E s:=
  Calls.Name_function_global I.ok.kind hg (Calls.loadGlobal_global (by rw [I.ok.glob]; exact I.mod.glob.keeps I.bk) hm h) hd
theorem ld_blt {E:Value→Shared→Prop} {pins:List (Addr×Obj)} {s:Shared} {σ:St} {H:Hp} {x:Str} {u:Value} {pos:Pos} {Q:Value→Shared→Prop} (I:Inv X pins σ H s) (hg:Gl X x) (hm:X.mg x=none) (hv:bootBuiltins x=some u) (h:Q u s)
    (hn:x ≠ "__name__":=by decide) (hd:(x == ("__debug__":Str))=false:=by decide):wpAny (model X.prog X.w) X.A (eval (.Name x pos) X.env) Q E s:=by
  obtain ⟨mb,h1,h2⟩:=I.mod.blt
  exact Calls.Name_function_global I.ok.kind hg (Calls.loadGlobal_builtin (by rw [I.ok.glob]; exact I.mod.glob.keeps I.bk) hm (by rw [I.ok.blt]; exact h1.keeps I.bk) ((h2 x hn).trans hv) h) hd
theorem pe_glob {x:Str} {v:V} {u:Value} {pos:Pos} (hg:Gl X x) (hm:X.mg x=some u) (r:RelV v u) (hd:(x == ("__debug__":Str))=false:=by decide):PE X (.Name x pos) (tC v):=
  fun _ _ _ H _ I h=>ld_glob I hg hm ⟨v,H,I,r,h⟩ hd
theorem pe_bltn {x:Str} {v:V} {u:Value} {pos:Pos} (hg:Gl X x) (hm:X.mg x=none) (hv:bootBuiltins x=some u) (r:RelV v u) (hn:x ≠ "__name__":=by decide) (hd:(x == ("__debug__":Str))=false:=by decide):PE X (.Name x pos) (tC v):=
  fun _ _ _ H _ I h=>ld_blt I hg hm hv ⟨v,H,I,r,h⟩ hn hd
variable {a b:Expr} {ta tb:TE} {pos:Pos}
noncomputable def tB (t:TE):TT:=fun σ H Q=>t σ H fun x H1=>∃ c,x=.bl c∧Q c H1
theorem pt_val {e:Expr} {t:TE} (h:PE X e t) (he:∀ whole,isTrue e X.env whole=(do let v ← whole; standAt e.pos; holding [v] (truthy v)):=by intro _; rfl):PT X e (tB t):=by
  intro pins s σ H Q I hw
  refine isTrue_plain (thnG (h pins s σ H _ I hw) fun v s1 x H1 I1 r1 q1=>?_) (he _)
  obtain ⟨d,rfl,q⟩:=q1
  cases r1
  exact wpAny_truthy_bool ⟨H1,I1,q⟩
variable {tA tB':TT} {rest:List Expr}
noncomputable def tAnd (t u:TT):TT:=fun σ H Q=>t σ H fun c H1=>if c=true then u σ H1 Q else Q false H1
noncomputable def tOr (t u:TT):TT:=fun σ H Q=>t σ H fun c H1=>if c=true then Q true H1 else u σ H1 Q
noncomputable def tNot (t:TT):TT:=fun σ H Q=>t σ H fun c H1=>Q (!c) H1
theorem pw_and1 (ha:PT X a tA):PW X (.BoolOp .And [a] pos) tA:=by
  intro wh pins s σ H Q I h
  refine isTrue_and (thn (ha pins s σ H Q I h) fun c s1 e=>?_)
  cases c with
  | true=>exact isTrue_and_nil e
  | false=>exact e
theorem pw_or1 (ha:PT X a tA):PW X (.BoolOp .Or [a] pos) tA:=by
  intro wh pins s σ H Q I h
  refine isTrue_or (thn (ha pins s σ H Q I h) fun c s1 e=>?_)
  cases c with
  | false=>exact isTrue_or_nil e
  | true=>exact e
theorem pw_and (ha:PT X a tA) (hb:PW X (.BoolOp .And (b::rest) pos) tB'):PW X (.BoolOp .And (a::b::rest) pos) (tAnd tA tB'):=by
  intro wh pins s σ H Q I h
  refine isTrue_and (thn (ha pins s σ H _ I h) fun c s1 hh_=>?_)
  obtain ⟨H1,I1,q1⟩:=hh_
  cases c with
  | true=>exact hb wh pins s1 σ H1 Q I1 q1
  | false=>exact ⟨H1,I1,q1⟩
theorem pw_or (ha:PT X a tA) (hb:PW X (.BoolOp .Or (b::rest) pos) tB'):PW X (.BoolOp .Or (a::b::rest) pos) (tOr tA tB'):=by
  intro wh pins s σ H Q I h
  refine isTrue_or (thn (ha pins s σ H _ I h) fun c s1 hh_=>?_)
  obtain ⟨H1,I1,q1⟩:=hh_
  cases c with
  | true=>exact ⟨H1,I1,q1⟩
  | false=>exact hb wh pins s1 σ H1 Q I1 q1
theorem pt_not (ha:PT X a tA):PT X (.UnaryOp .Not a pos) (tNot tA):=by
  intro pins s σ H Q I h
  exact isTrue_not (ha pins s σ H (fun c H1=>Q (!c) H1) I h)
noncomputable def tAndV (ta tb:TE):TE:=fun σ H Q=>ta σ H fun x H1=>∃ c,x=.bl c∧if c=true then tb σ H1 Q else Q (.bl false) H1
noncomputable def tOrV (ta tb:TE):TE:=fun σ H Q=>ta σ H fun x H1=>∃ c,x=.bl c∧if c=true then Q (.bl true) H1 else tb σ H1 Q
noncomputable def tNotV (ta:TE):TE:=fun σ H Q=>ta σ H fun x H1=>∃ c,x=.bl c∧Q (.bl (!c)) H1
theorem pe_one {op} {t:TE} (h:PE X a t):PE X (.BoolOp op [a] pos) t:=fun pins s σ H Q I hw=>BoolOp_one (h pins s σ H Q I hw)
theorem pe_and (ha:PE X a ta) (hb:PE X (.BoolOp .And (b::rest) pos) tb):PE X (.BoolOp .And (a::b::rest) pos) (tAndV ta tb):=by
  intro pins s σ H Q I h
  refine BoolOp_and (thnG (ha pins s σ H _ I h) fun v s1 x H1 I1 r1 q1=>?_)
  obtain ⟨c,rfl,q1⟩:=q1
  cases r1
  refine wpAny_truthy_bool ?_
  cases c with
  | true=>exact hb pins s1 σ H1 Q I1 q1
  | false=>exact ⟨.bl false,H1,I1,rfl,q1⟩
theorem pe_or (ha:PE X a ta) (hb:PE X (.BoolOp .Or (b::rest) pos) tb):PE X (.BoolOp .Or (a::b::rest) pos) (tOrV ta tb):=by
  intro pins s σ H Q I h
  refine BoolOp_or (thnG (ha pins s σ H _ I h) fun v s1 x H1 I1 r1 q1=>?_)
  obtain ⟨c,rfl,q1⟩:=q1
  cases r1
  refine wpAny_truthy_bool ?_
  cases c with
  | false=>exact hb pins s1 σ H1 Q I1 q1
  | true=>exact ⟨.bl true,H1,I1,rfl,q1⟩
theorem pe_not (ha:PE X a ta):PE X (.UnaryOp .Not a pos) (tNotV ta):=by
  intro pins s σ H Q I h
  refine UnaryOp_ (thnG (ha pins s σ H _ I h) fun v s1 x H1 I1 r1 q1=>?_)
  obtain ⟨c,rfl,q1⟩:=q1
  cases r1
  exact not_of (wpAny_truthy_bool ⟨.bl (!c),H1,I1,rfl,q1⟩)
noncomputable def tIf (t:TT) (ta tb:TE):TE:=fun σ H Q=>t σ H fun c H1=>if c=true then ta σ H1 Q else tb σ H1 Q
theorem pe_ifExp {c:Expr} (hc:PT X c tA) (ha:PE X a ta) (hb:PE X b tb):PE X (.IfExp c a b pos) (tIf tA ta tb):=by
  intro pins s σ H Q I h
  refine wpAny_IfExp (thn (hc pins s σ H _ I h) fun d s1 hh_=>?_)
  obtain ⟨H1,I1,q1⟩:=hh_
  cases d with
  | true=>exact ha pins s1 σ H1 Q I1 q1
  | false=>exact hb pins s1 σ H1 Q I1 q1
end
noncomputable def SqL (K:PySem.W.Frag) (H:Hp) (a:Addr) (xs:List V):Prop:=
  Rd H a (.lst xs) ∨
    ∃ (o:Obj) (its:Array Value) (n:Nat),K.lookup a=some o∧o.cls=.type "list"∧o.dict=none∧o.data=.seq its n∧its.size≤sizeLine∧Vals xs its.toList
noncomputable def SqT (K:PySem.W.Frag) (H:Hp) (a:Addr) (xs:List V):Prop:=
  Rd H a (.tup xs) ∨
    ∃ (o:Obj) (its:Array Value) (n:Nat),K.lookup a=some o∧o.cls=.type "tuple"∧o.data=.seq its n∧its.size≤sizeLine∧Vals xs its.toList
noncomputable def absV:Value→Option V
  | .none=>some .non
  | .bool b=>some (.bl b)
  | .int i _=>some (.int i)
  | .str x _=>some (.str x)
  | .bytes b _=>some (.byt b)
  | .float b _=>some (.flt b)
  | .ref a=>some (.ref a)
  | .type n=>some (.ty n)
  | _=>none
theorem RelV.abs {x:V} {u:Value} (r:RelV x u):absV u=some x:=by
  cases x with
  | non=>cases r; rfl
  | bl _=>cases r; rfl
  | int _=>obtain ⟨t,rfl⟩:=r; rfl
  | str _=>obtain ⟨t,rfl⟩:=r; rfl
  | byt _=>obtain ⟨t,rfl⟩:=r; rfl
  | flt _=>obtain ⟨t,rfl⟩:=r; rfl
  | ref _=>cases r; rfl
  | ty _=>cases r; rfl
theorem RelV.inj {x y:V} {u:Value} (r:RelV x u) (q:RelV y u):x=y:=Option.some.inj (r.abs.symm.trans q.abs)
theorem Vals.inj {xs ys:List V} {us:List Value} (h:Vals xs us):Vals ys us→xs=ys:=by
  induction h generalizing ys with
  | nil=>intro q; cases q; rfl
  | cons r _ ih=>
    intro q
    cases q with
    | cons r' t'=>rw [r.inj r',ih t']
section
variable {X:Cx} {pins:List (Addr×Obj)} {σ:St} {H:Hp} {s:Shared} {a:Addr} {xs ys:List V}
theorem SqL.of {K:PySem.W.Frag} (h:H a=some (.lst xs)):SqL K H a xs:=.inl (.inl h)
theorem SqT.of {K:PySem.W.Frag} (h:H a=some (.tup xs)):SqT K H a xs:=.inl (.inl h)
theorem Inv.list (I:Inv X pins σ H s) (h:SqL X.K H a xs):∃ its:List Value,Vals xs its∧PlainL s.heap a its.toArray∧xs.length≤sizeLine:=by
  rcases h with h | ⟨o,its,n,hk,hc,hd,hs,hz,r⟩
  · obtain ⟨z,its,n,r,e⟩:=h.ok I.hok
    exact ⟨its,r,⟨_,n,e,rfl,rfl,rfl⟩,z⟩
  · refine ⟨its.toList,r,⟨o,n,I.kIn a o hk,hc,hd,by simpa using hs⟩,?_⟩
    have e:=r.length
    simp only [Array.length_toList] at e
    omega
theorem Inv.tuple (I:Inv X pins σ H s) (h:SqT X.K H a xs):∃ its:List Value,Vals xs its∧IsTup s.heap a its.toArray∧xs.length≤sizeLine:=by
  rcases h with h | ⟨o,its,n,hk,hc,hs,hz,r⟩
  · obtain ⟨z,its,r,p,_⟩:=h.ok I.hok
    exact ⟨its,r,p,z⟩
  · refine ⟨its.toList,r,⟨o,I.kIn a o hk,hc,n,by simpa using hs⟩,?_⟩
    have e:=r.length
    simp only [Array.length_toList] at e
    omega
theorem Inv.list_inj (I:Inv X pins σ H s) (h:SqL X.K H a xs) (h':SqL X.K H a ys):xs=ys:=by
  obtain ⟨its,r,⟨o,n,e,_,_,d⟩,_⟩:=I.list h
  obtain ⟨its',r',⟨o',n',e',_,_,d'⟩,_⟩:=I.list h'
  rw [e] at e'; cases e'
  rw [d] at d'
  injection d' with d1 _
  have:its=its':=by simpa using congrArg Array.toList d1
  subst this
  exact r.inj r'
theorem Inv.tuple_inj (I:Inv X pins σ H s) (h:SqT X.K H a xs) (h':SqT X.K H a ys):xs=ys:=by
  obtain ⟨its,r,⟨o,e,_,n,d⟩,_⟩:=I.tuple h
  obtain ⟨its',r',⟨o',e',_,n',d'⟩,_⟩:=I.tuple h'
  rw [e] at e'; cases e'
  rw [d] at d'
  injection d' with d1 _
  have:its=its':=by simpa using congrArg Array.toList d1
  subst this
  exact r.inj r'
end
noncomputable abbrev Cx.wish (X:Cx) (E:Value→Shared→Prop):Cx:={ X with xe:=E }
noncomputable abbrev Cx.nox (X:Cx):Cx:=X.wish fun _ _=>False
theorem Cx.Ok.wish {X:Cx} (ok:X.Ok) (E:Value→Shared→Prop):(X.wish E).Ok:=
  ⟨ok.mod,ok.kind,ok.glob,ok.blt,ok.above,ok.inj,ok.has,ok.cab,ok.hd,ok.frames,ok.stk,ok.exf,ok.bs,ok.bsz,ok.noex,ok.exfs,ok.funs,ok.frf⟩
theorem Cx.Ok.unwish {X:Cx} {E:Value→Shared→Prop} (ok:(X.wish E).Ok):X.Ok:=
  ⟨ok.mod,ok.kind,ok.glob,ok.blt,ok.above,ok.inj,ok.has,ok.cab,ok.hd,ok.frames,ok.stk,ok.exf,ok.bs,ok.bsz,ok.noex,ok.exfs,ok.funs,ok.frf⟩
section
variable {X:Cx} {pins:List (Addr×Obj)} {σ:St} {H:Hp} {s:Shared} {E:Value→Shared→Prop}
theorem Inv.wish (I:Inv X pins σ H s) (E:Value→Shared→Prop):Inv (X.wish E) pins σ H s:=⟨I.ok.wish E,I.os,I.bare,I.base,I.loc,I.cell,I.free,I.freeC,I.pin,I.hok,I.len⟩
theorem Inv.unwish (I:Inv (X.wish E) pins σ H s):Inv X pins σ H s:=⟨I.ok.unwish,I.os,I.bare,I.base,I.loc,I.cell,I.free,I.freeC,I.pin,I.hok,I.len⟩
theorem SP.unwish {D:Ends} {f:Flow} {s':Shared} (h:SP (X.wish E) pins D f s'):SP X pins D f s':=by
  cases f with
  | next=>obtain ⟨σ',H',I,q⟩:=h; exact ⟨σ',H',I.unwish,q⟩
  | brk=>obtain ⟨σ',H',I,q⟩:=h; exact ⟨σ',H',I.unwish,q⟩
  | cont=>obtain ⟨σ',H',I,q⟩:=h; exact ⟨σ',H',I.unwish,q⟩
  | ret u=>obtain ⟨v,σ',H',I,r,q⟩:=h; exact ⟨v,σ',H',I.unwish,r,q⟩
theorem PSs.nox {st:List Stmt} {t:TS} (h:PSs X.nox st t):PSs X st t:=fun pins s σ H D I hw=>
  wpAny_mono (h pins s σ H D (I.wish _) hw) (fun _ _ q=>q.unwish) fun _ _ z=>False.elim z
end
section
variable {X:Cx} {st:Stmt} {rest:List Stmt} {t u:TS} {e:Expr} {te:TE} {pos:Pos}
noncomputable def tNext:TS:=fun D σ H=>D.nx σ H
noncomputable def tSeq (t u:TS):TS:=fun D σ H=>t { D with nx:=u D } σ H
theorem pss_nil:PSs X [] tNext:=fun _ _ σ H _ I h=>wpAny_execs_nil ⟨σ,H,I,h⟩
theorem pss_cons (h1:PS X st t) (h2:PSs X rest u):PSs X (st::rest) (tSeq t u):=by
  intro pins s σ H D I h
  refine wpAny_execs_cons (thn (h1 pins s σ H { D with nx:=u D } I h) fun f s1 q=>?_)
  cases f with
  | next=>
    obtain ⟨σ',H',I',q⟩:=q
    exact h2 pins s1 σ' H' D I' q
  | ret v=>exact q
  | brk=>exact q
  | cont=>exact q
theorem pss_one (h1:PS X st t):PSs X [st] t:=by
  intro pins s σ H D I h
  refine wpAny_execs_cons (thn (h1 pins s σ H D I h) fun f s1 q=>?_)
  cases f with
  | next=>exact wpAny_execs_nil q
  | ret v=>exact q
  | brk=>exact q
  | cont=>exact q
theorem Inv.quiet {pins:List (Addr×Obj)} {σ:St} {H:Hp} {s:Shared} (I:Inv X pins σ H s):interactive X.env=false:=by simp [interactive,I.ok.kind]
noncomputable def tDrop (te:TE):TS:=fun D σ H=>te σ H fun _ H1=>D.nx σ H1
theorem ps_expr (he:PE X e te) (hs:swapsWith e none pos.line X.env=pure false:=by rfl):PS X (.Expr e pos) (tDrop te):=by
  intro pins s σ H D I h
  exact wpAny_Expr_any (thnG (he pins s σ H _ I h) fun v s1 x H1 I1 r1 q1=>⟨σ,H1,I1,q1⟩) I.quiet hs
noncomputable def tRet (te:TE):TS:=fun D σ H=>te σ H D.rt
theorem ps_ret (he:PE X e te):PS X (.Return (some e) pos) (tRet te):=by
  intro pins s σ H D I h
  exact wpAny_Return_some (thnG (he pins s σ H _ I h) fun v s1 x H1 I1 r1 q1=>⟨x,σ,H1,I1,r1,q1⟩)
noncomputable def tIfS (c:TT) (t u:TS):TS:=fun D σ H=>c σ H fun b H1=>if b=true then t D σ H1 else u D σ H1
theorem ps_if {c:Expr} {a b:List Stmt} {tc:TT} (hc:PT X c tc) (ha:PSs X a t) (hb:PSs X b u):PS X (.If c a b pos) (tIfS tc t u):=by
  intro pins s σ H D I h
  refine wpAny_If (thn (hc pins s σ H _ I h) fun d s1 hh_=>?_)
  obtain ⟨H1,I1,q1⟩:=hh_
  cases d with
  | true=>exact ha pins s1 σ H1 D I1 q1
  | false=>exact hb pins s1 σ H1 D I1 q1
noncomputable def tNever:TS:=fun _ _ _=>False
theorem ps_never:PS X st tNever:=fun _ _ _ _ _ _ h=>h.elim
theorem pss_never {sts:List Stmt}:PSs X sts tNever:=fun _ _ _ _ _ _ h=>h.elim
end
noncomputable abbrev TG:=V→St→Hp→(St→Hp→Prop)→Prop
noncomputable abbrev TGs:=List V→St→Hp→(St→Hp→Prop)→Prop
noncomputable def PG (X:Cx) (target:Expr) (t:TG):Prop:=
  ∀ (pins:List (Addr×Obj)) (s:Shared) (σ:St) (H:Hp) (v:V) (u:Value) (Q:St→Hp→Prop),Inv X pins σ H s→RelV v u→t v σ H Q→
    wpAny (model X.prog X.w) X.A (assign target X.env u) (fun _ s'=>∃ σ' H',Inv X pins σ' H' s'∧Q σ' H') X.xe s
noncomputable def PGs (X:Cx) (ts:List Expr) (t:TGs):Prop:=
  ∀ (pins:List (Addr×Obj)) (s:Shared) (σ:St) (H:Hp) (vs:List V) (us:List Value) (Q:St→Hp→Prop),Inv X pins σ H s→Vals vs us→t vs σ H Q→
    wpAny (model X.prog X.w) X.A (assignInOrder ((assignEach ts X.env).map (·.2)) us) (fun _ s'=>∃ σ' H',Inv X pins σ' H' s'∧Q σ' H') X.xe s
noncomputable abbrev TSet:=V→V→V→Hp→(Hp→Prop)→Prop
noncomputable def PSet (X:Cx) (t:TSet):Prop:=
  ∀ (pins:List (Addr×Obj)) (s:Shared) (σ:St) (H:Hp) (o i v:V) (ov iv u:Value) (Q:Hp→Prop),Inv X pins σ H s→RelV o ov→RelV i iv→RelV v u→t o i v H Q→
    wpAny (model X.prog X.w) X.A (setItem ov iv u) (fun _ s'=>∃ H',Inv X pins σ H' s'∧Q H') X.xe s
section
variable {X:Cx} {pos:Pos}
noncomputable def gName (i:Nat):TG:=fun v σ H Q=>Q (σ.set i (some v)) H
theorem pg_name {i:Nat} {x:Str} (hN:X.N.Nodup) (hi:X.N[i]?=some x) (hx:Loc X.env.scope x) (hf:X.fn x=true∨X.env.scope.names.lookup x=some .local:=by first | exact .inl rfl | exact .inr rfl | assumption):PG X (.Name x pos) (gName i):=by
  intro pins s σ H v u Q I r h
  exact wpAny_assign_Name (store_ok I hN hi hx r (fun s' I'=>⟨_,H,I',h⟩) hf)
noncomputable def gNil:TGs:=fun vs σ H Q=>vs=[]∧Q σ H
noncomputable def gCons (t:TG) (u:TGs):TGs:=fun vs σ H Q=>∃ v r,vs=v::r∧t v σ H fun σ' H'=>u r σ' H' Q
theorem pgs_nil:PGs X [] gNil:=by
  intro pins s σ H vs us Q I r h
  obtain ⟨e,h⟩:=h
  subst e
  cases r
  exact assignInOrder_nil ⟨σ,H,I,h⟩
theorem pgs_cons {e:Expr} {es:List Expr} {t:TG} {u:TGs} (h1:PG X e t) (h2:PGs X es u)
    (hs:(assignEach (e::es) X.env).map (·.2)=assign e X.env::(assignEach es X.env).map (·.2):=by rfl):PGs X (e::es) (gCons t u):=by
  intro pins s σ H vs us Q I r h
  obtain ⟨v,vr,e1,h⟩:=h
  subst e1
  cases r with
  | cons r rr=>
    rw [hs]
    refine assignInOrder_cons (thn (h1 pins s σ H _ _ _ I r h) fun _ s1 hh_=>?_)
    obtain ⟨σ1,H1,I1,q1⟩:=hh_
    exact h2 pins s1 σ1 H1 _ _ Q I1 rr q1
noncomputable def gTup (K:PySem.W.Frag) (n:Nat) (t:TGs):TG:=fun v σ H Q=>∃ a xs,v=.ref a∧SqT K H a xs∧xs.length=n∧t xs σ H Q
theorem pg_tup {es:List Expr} {k:Nat} {t:TGs} {n:Nat} (hc:X.calm=true) (h:PGs X es t)
    (hn:(assignEach es X.env).length=n:=by rfl) (hst:(assignEach es X.env).findIdx? (·.1)=none:=by rfl):PG X (.Tuple es k pos) (gTup X.K n t):=by
  intro pins s σ H v u Q I r hw
  obtain ⟨a,xs,e1,hq,hl,hw⟩:=hw
  subst e1
  cases r
  obtain ⟨its,rv,ht,hz⟩:=I.tuple hq
  refine assign_Tuple_tuple (I.ok.hd hc) ht (by simp [hn,← hl,rv.length]) hst fun h' hx=>?_
  have I1:Inv X pins σ H { s with heap:=h' }:=I.kept (t':=s.toks) fun b o e=>hx b o (Nat.ne_of_lt (Heap.lt_size e)) e
  exact h pins _ σ H xs _ Q I1 (by simpa using rv) hw
noncomputable def gSub (to ti:TE) (t:TSet):TG:=fun v σ H Q=>to σ H fun o H1=>ti σ H1 fun i H2=>t o i v H2 fun H3=>Q σ H3
theorem pg_sub {o i:Expr} {to ti:TE} {t:TSet} (ho:PE X o to) (hi:PE X i ti) (hs:PSet X t)
    (ha:∀ v,assign (.Subscript o i pos) X.env v=(do
      let ov ← holding [v] (eval o X.env)
      let iv ← holding [v,ov] (eval i X.env)
      standAt pos
      holding [v,ov,iv] (setItem ov iv v)
      release [v,ov,iv] []):=by intro _; rfl):PG X (.Subscript o i pos) (gSub to ti t):=by
  intro pins s σ H v u Q I r h
  rw [ha]
  refine wpAny_bind (wpAny_holding (thnG (ho pins s σ H _ I h) fun ov s1 x H1 I1 r1 q1=>?_))
  refine wpAny_bind (wpAny_holding (thnG (hi pins s1 σ H1 _ I1 q1) fun iv s2 y H2 I2 r2 q2=>?_))
  refine wpAny_bind (wpAny_standAt (wpAny_bind (wpAny_holding (thn (hs pins s2 σ H2 x y v ov iv u _ I2 r1 r2 r q2) fun _ s3 hh_=>?_))))
  obtain ⟨H3,I3,q3⟩:=hh_
  exact wpAny_release ⟨σ,H3,I3,q3⟩
noncomputable def tAsg (te:TE) (g:TG):TS:=fun D σ H=>te σ H fun x H1=>g x σ H1 D.nx
theorem ps_asg {tg e:Expr} {te:TE} {g:TG} (he:PE X e te) (hg:PG X tg g) (hs:swapsWithSole [tg] e pos.line X.env=pure false:=by rfl) (hw:swappedStores [tg] e X.env=pure none:=by rfl)
    (h1:(assignEach [tg] X.env).map (·.2)=[assign tg X.env]:=by rfl):PS X (.Assign [tg] e pos) (tAsg te g):=by
  intro pins s σ H D I h
  refine wpAny_Assign_stores (thnG (he pins s σ H _ I h) fun v s1 x H1 I1 r1 q1=>?_) hs hw
  rw [h1]
  exact thn (hg pins s1 σ H1 x v _ I1 r1 q1) fun _ s2 q=>q
theorem ps_set {i:Nat} {x:Str} {e:Expr} {te:TE} {pos':Pos} (hN:X.N.Nodup) (hi:X.N[i]?=some x) (hx:Loc X.env.scope x) (he:PE X e te) (hs:swapsWith e (some (.Name x pos')) pos.line X.env=pure false:=by rfl) (hf:X.fn x=true∨X.env.scope.names.lookup x=some .local:=by first | exact .inl rfl | exact .inr rfl | assumption) :
    PS X (.Assign [.Name x pos'] e pos) (tAsg te (gName i)):=by
  intro pins s σ H D I h
  refine wpAny_Assign_Name (thnG (he pins s σ H _ I h) fun v s1 y H1 I1 r1 q1=>?_) hs
  exact store_ok I1 hN hi hx r1 (fun s2 I2=>⟨_,H1,I2,q1⟩) hf
end
section
variable {X:Cx} {pos:Pos}
end
structure It where
  go:Nat→Hp→Prop
  yld:Nat→Hp→V→Hp→Prop
  stop:Nat→Hp→Prop
noncomputable def FpOk (X:Cx) (pins:List (Addr×Obj)) (H:Hp) (b:Addr):Prop:=
  H b=none∧b≠X.env.locals∧b∉X.fs∧(b∈X.ex∨X.s₀.heap.objs.size≤b)∧(∀ x c,X.env.cells.lookup x=some c→c≠b)∧∀ p∈X.pn++pins,p.1≠b
theorem Inv.fpOk {X:Cx} {pins:List (Addr×Obj)} {σ:St} {H H':Hp} {s:Shared} {b:Addr} (I:Inv X pins σ H s) (hb:s.heap.objs.size≤b) (hn:H' b=none):FpOk X pins H' b:=by
  refine ⟨hn,Nat.ne_of_gt (Nat.lt_of_lt_of_le I.lt hb),I.nofs hb,.inr (Nat.le_trans I.sz hb),fun x c e z=>?_,fun p hp z=>?_⟩
  · obtain ⟨v,q⟩:=I.cell x c e
    exact absurd (Nat.lt_of_lt_of_le q.lt (by rw [z]; exact hb)) (Nat.lt_irrefl _)
  · exact absurd (Nat.lt_of_lt_of_le (Heap.lt_size (I.pin p hp).1) (by rw [z]; exact hb)) (Nat.lt_irrefl _)
structure Turn (P:Program) (w:World) (K:PySem.W.Frag) (tg:Expr) (J:It) (fp:List Addr) (it:Addr) (tn:Nat→Heap→Prop):Prop where
  mem:it∈fp
  obj:∀ i h,tn i h→∀ b∈fp,∃ o,h.get? b=some o∧∀ v,o.data≠.cell v
  keep:∀ i h h',tn i h→(∀ b∈fp,∀ o,h.get? b=some o→h'.get? b=some o)→tn i h'
  item:∀ (X:Cx),X.prog=P→X.w=w→X.K=K→X.calm=true→∀ (i:Nat) (pins:List (Addr×Obj)) (s:Shared) (σ:St) (H:Hp) (E:Value→Shared→Prop),Inv X pins σ H s→(∀ b∈fp,FpOk X pins H b)→tn i s.heap→J.go i H→
    wpAny (model P w) X.A (pyNext (.ref it)) (fun r s1=>∃ u,r=some u ∧
      wpAny (model P w) X.A (letOwnedTupleGo tg (.ref it) u) (fun _ s2=>∃ x H',Inv X pins σ H' s2∧RelV x u∧J.yld i H x H'∧tn (i + 1) s2.heap∧∀ b∈fp,H' b=none) E s1) E s
  done:∀ (X:Cx),X.prog=P→X.w=w→X.K=K→X.calm=true→∀ (i:Nat) (pins:List (Addr×Obj)) (s:Shared) (σ:St) (H:Hp) (E:Value→Shared→Prop),Inv X pins σ H s→(∀ b∈fp,FpOk X pins H b)→tn i s.heap→J.stop i H→
    wpAny (model P w) X.A (pyNext (.ref it)) (fun r s1=>r=none∧Inv X pins σ H s1) E s
  self:∀ (A:Around) (i:Nat) (s:Shared) (Q:Value→Shared→Prop) (E:Value→Shared→Prop),tn i s.heap→Q (.ref it) s→wpAny (model P w) A (pyIter (.ref it)) Q E s
noncomputable abbrev TI:=St→Hp→(It→Hp→Prop)→Prop
noncomputable def PIE (X:Cx) (pins:List (Addr×Obj)) (σ:St) (tg:Expr) (R:It→Hp→Prop) (itv:Value) (s2:Shared):Prop:=
  ∃ (it:Addr) (fp:List Addr) (tn:Nat→Heap→Prop) (J:It) (H':Hp),itv=.ref it∧Inv X pins σ H' s2∧Turn X.prog X.w X.K tg J fp it tn∧tn 0 s2.heap∧(∀ b∈fp,FpOk X pins H' b)∧R J H'
noncomputable def PI (X:Cx) (tg iter:Expr) (wi:TI):Prop:=
  ∀ (pins:List (Addr×Obj)) (s:Shared) (σ:St) (H:Hp) (R:It→Hp→Prop),Inv X pins σ H s→wi σ H R→
    wpAny (model X.prog X.w) X.A (eval iter X.env) (fun v s1=>wpAny (model X.prog X.w) X.A (pyIter v) (PIE X pins σ tg R) X.xe s1) X.xe s
theorem go_of {M:Model} {A:Around} {E:Value→Shared→Prop} {s:Shared} {tg:Expr} {it:Addr} {u:Value} {o:Obj} {n:String} {vs:Array Value} {Q:Unit→Shared→Prop} (ho:s.heap.get? it=some o) (hc:o.cls=.type n) (hd:o.data=.fields vs)
    (hn:["enumerate", "zip", "dict_itemiterator", "dict_reverseitemiterator", "odict_iterator", "itertools.zip_longest", "itertools.pairwise"].contains n=false) (hQ:Q () s):wpAny M A (letOwnedTupleGo tg (.ref it) u) Q E s:=by
  unfold letOwnedTupleGo
  cases tg <;> first
    | exact wpAny_pure hQ
    | (cases u <;> first
        | exact wpAny_pure hQ
        | (refine wpAny_bind (wpAny_load ho ?_)
           rw [hc,hd]
           show wpAny M A (if (["enumerate", "zip", "dict_itemiterator", "dict_reverseitemiterator", "odict_iterator", "itertools.zip_longest", "itertools.pairwise"].contains n&&vs[0]? == some (rawInt _))=true then _ else _) Q E s
           rw [if_neg (by intro h; rw [hn,Bool.false_and] at h; cases h)]
           exact wpAny_pure hQ))
noncomputable def Itl (K:PySem.W.Frag) (a:Addr):It:=
  ⟨fun i H=>∃ xs x,SqL K H a xs∧xs[i]?=some x,fun i H x H'=>H'=H∧∀ xs,SqL K H a xs→xs[i]?=some x,fun i H=>∃ xs,SqL K H a xs∧xs.length≤i⟩
noncomputable def Itr (lo:Int) (n:Nat):It:=⟨fun i _=>i < n,fun i H x H'=>H'=H∧x=.int (lo + i),fun i _=>n≤i⟩
theorem turn_list {P:Program} {w:World} {K:PySem.W.Frag} {tg:Expr} (a it:Addr):Turn P w K tg (Itl K a) [it] it (fun i h=>h.IsListIter it a i) where
  mem:=by simp
  obj:=fun i h st b hb=>by
    have e:b=it:=by simpa using hb
    subst e
    obtain ⟨o,e,c,d⟩:=st
    exact ⟨o,e,fun v z=>by rw [d] at z; cases z⟩
  keep:=fun i h h' st k=>st.at fun o e=>k it (by simp) o e
  item:=by
    intro X hP hw hK hc i pins s σ H E I hf st hg
    subst hP hw hK
    obtain ⟨xs,x,hq,hx⟩:=hg
    obtain ⟨its,rv,p,hz⟩:=I.list hq
    obtain ⟨u,hu,ru⟩:=rv.get hx
    obtain ⟨f0,f1,f2,f3,f4,f5⟩:=hf it (by simp)
    refine wpAny_pyNext_list_item st p.isList (x:=u) (by simpa using hu) fun h' st' sb=>?_
    have I1:Inv X pins σ H { s with heap:=h' }:=I.turned (t':=s.toks) (fun b o hb e=>(sb.2 b hb).trans e) f0 f1 f3 f4 f5
    obtain ⟨o,e,c,d⟩:=id st'
    exact ⟨u,rfl,go_of (s:={ s with heap:=h' }) e c d (by decide) ⟨x,H,I1,ru,⟨rfl,fun ys hy=>by rw [I.list_inj hy hq]; exact hx⟩,st',fun b hb=>(hf b hb).1⟩⟩
  done:=by
    intro X hP hw hK hc i pins s σ H E I hf st hg
    subst hP hw hK
    obtain ⟨xs,hq,hx⟩:=hg
    obtain ⟨its,rv,p,hz⟩:=I.list hq
    obtain ⟨f0,f1,f2,f3,f4,f5⟩:=hf it (by simp)
    have hl:=rv.length
    exact wpAny_pyNext_list_end (I.ok.hd hc) st p.isList (by simp; omega) fun h' eb=>⟨rfl,I.turned (t':=s.toks) (fun b o hb e=>eb b o hb e) f0 f1 f3 f4 f5⟩
  self:=fun _ _ _ _ _ st h=>wpAny_pyIter_listiter st h
theorem turn_range {P:Program} {w:World} {K:PySem.W.Frag} {tg:Expr} (it:Addr) (lo:Int) (n:Nat):Turn P w K tg (Itr lo n) [it] it (fun i h=>IsRangeIter h it (lo + (i:Nat) * 1) ((n:Int) - (i:Nat)) 1) where
  mem:=by simp
  obj:=fun i h st b hb=>by
    have e:b=it:=by simpa using hb
    subst e
    exact ⟨_,st,fun v z=>by
      have z':Data.fields _=Data.cell v:=z
      cases z'⟩
  keep:=fun i h h' st k=>k it (by simp) _ st
  item:=by
    intro X hP hw hK hc i pins s σ H E I hf st hg
    subst hP hw hK
    obtain ⟨f0,f1,f2,f3,f4,f5⟩:=hf it (by simp)
    have W:=Walks.range (prog:=X.prog) (w:=X.w) (I.ok.hd hc) it lo 1 n
    refine W.item i s _ _ hg st fun v h' tk hv st' kk=>?_
    obtain ⟨t,rfl⟩:=hv
    have I1:Inv X pins σ H { s with heap:=h',toks:=tk }:=I.turned (fun b o hb e=>kk b o (by simpa using hb) e) f0 f1 f3 f4 f5
    refine ⟨_,rfl,go_of (s:={ s with heap:=h',toks:=tk }) (n := "range_iterator") st' rfl rfl (by decide) ⟨.int (lo + i),H,I1,⟨t,?_⟩,⟨rfl,rfl⟩,st',fun b hb=>(hf b hb).1⟩⟩
    rw [Int.mul_one]
  done:=by
    intro X hP hw hK hc i pins s σ H E I hf st hg
    subst hP hw hK
    obtain ⟨f0,f1,f2,f3,f4,f5⟩:=hf it (by simp)
    exact wpAny_pyNext_range_end (I.ok.hd hc) st (by have:n≤i:=hg; omega) fun h' eb=>⟨rfl,I.turned (t':=s.toks) (fun b o hb e=>eb b o hb e) f0 f1 f3 f4 f5⟩
  self:=fun _ _ _ _ _ st h=>wpAny_pyIter_rangeiter st h
section
variable {X:Cx} {tg:Expr}
noncomputable def iList (K:PySem.W.Frag) (tl:TE):TI:=fun σ H R=>tl σ H fun x H1=>∃ a,x=.ref a∧(∃ xs,SqL K H1 a xs)∧R (Itl K a) H1
theorem pi_list {l:Expr} {tl:TE} (hl:PE X l tl):PI X tg l (iList X.K tl):=by
  intro pins s σ H R I h
  refine thnG (hl pins s σ H _ I h) fun v s1 x H1 I1 r1 q1=>?_
  obtain ⟨a,e,⟨xs,hq⟩,q⟩:=q1
  subst e
  cases r1
  obtain ⟨its,rv,p,hz⟩:=I1.list hq
  refine wpAny_pyIter_list p.isList ?_
  refine ⟨s1.heap.objs.size,[s1.heap.objs.size],_,_,H1,rfl,I1.kept (t':=s1.toks) fun b o e=>Heap.get?_push_of_some _ e,turn_list a _,⟨_,Heap.get?_push_size _ rfl,rfl,rfl⟩,fun b hb=>?_,q⟩
  have e:b=s1.heap.objs.size:=by simpa using hb
  subst e
  exact I1.fpOk (Nat.le_refl _) (I1.hok.fresh (Nat.le_refl _))
theorem range_it {pins:List (Addr×Obj)} {σ:St} {H:Hp} {s:Shared} {R:It→Hp→Prop} {E:Value→Shared→Prop} {lo hi:Int} {t u v:Tok} {tk:Nat} (I:Inv X pins σ H s) (h1:-(2 ^ 62)≤lo) (h2:lo < 2 ^ 62) (h3:-(2 ^ 62)≤hi) (h4:hi < 2 ^ 62)
    (q:R (Itr lo (hi - lo).toNat) H):wpAny (model X.prog X.w) X.A (pyIter (.ref s.heap.objs.size)) (PIE X pins σ tg R) E { s with heap:=s.heap.push { cls:=.type "range",data:=.fields #[.int lo t,.int hi u,.int 1 v] },toks:=tk }:=by
  refine wpAny_pyIter_range (IsRange.new ..) (small_one h1 h2 h3 h4) ?_
  have I1:Inv X pins σ H { s with heap:=s.heap.push { cls:=.type "range",data:=.fields #[.int lo t,.int hi u,.int 1 v] },toks:=tk }:=I.kept fun b o e=>Heap.get?_push_of_some _ e
  refine ⟨(s.heap.push { cls:=.type "range",data:=.fields #[.int lo t,.int hi u,.int 1 v] }).objs.size,[(s.heap.push { cls:=.type "range",data:=.fields #[.int lo t,.int hi u,.int 1 v] }).objs.size],_,_,H,rfl,
    I1.kept (t':=tk) fun b o e=>Heap.get?_push_of_some _ e,turn_range _ lo (hi - lo).toNat,?_,fun b hb=>?_,q⟩
  · have e1:lo + ((0:Nat):Int) * 1=lo:=by simp
    have e2:(((hi - lo).toNat:Nat):Int) - ((0:Nat):Int)=Builtin.Range.rangeSize lo hi 1:=by rw [rangeSize_one]; split <;> omega
    show IsRangeIter _ _ (lo + ((0:Nat):Int) * 1) ((((hi - lo).toNat:Nat):Int) - ((0:Nat):Int)) 1
    rw [e1,e2]
    exact Heap.get?_push_size _ rfl
  · have e:b=(s.heap.push { cls:=.type "range",data:=.fields #[.int lo t,.int hi u,.int 1 v] }).objs.size:=by simpa using hb
    subst e
    exact I1.fpOk (Nat.le_refl _) (I1.hok.fresh (Nat.le_refl _))
noncomputable def iRng1 (ta:TA):TI:=fun σ H R=>ta σ H fun vs H1=>∃ j:Int,vs=[.int j]∧-(2 ^ 62)≤j∧j < 2 ^ 62∧R (Itr 0 j.toNat) H1
theorem pi_range1 {a:Expr} {ta:TA} {p pos:Pos} (hg:Gl X "range") (hm:X.mg "range"=none) (ha:PA X [a] ta) (hs:starEach [a] X.env=[(false,eval a X.env)]:=by rfl):PI X tg (.Call (.Name "range" p) [a] [] pos) (iRng1 ta):=by
  intro pins s σ H R I h
  refine Call_ (ld_blt I hg hm boot_range (PyProof.Rows.callWith_type1 (thnG (ha pos pins s σ H _ I h) fun us s1 vs H1 I1 r1 q1=>?_) hs rfl))
  obtain ⟨j,e,q1,q2,q⟩:=q1
  subst e
  cases r1 with
  | cons r rr=>
    cases rr
    obtain ⟨t,rfl⟩:=r
    exact call_range_1 (range_it I1 (by omega) (by omega) q1 q2 (by simpa using q))
noncomputable def tFor (wi:TI) (g:TG) (tb:TS):TS:=fun D σ H=>wi σ H fun J H1=>∃ W:Nat→Nat→St→Hp→Prop,(∃ m,W 0 m σ H1)∧∀ i m σ H,W i m σ H→
  (J.stop i H∧D.nx σ H)∨(J.go i H∧∃ N:St→Hp→Prop,(∀ σ' H',N σ' H'→∃ m',m' < m∧W (i + 1) m' σ' H')∧∀ x H',J.yld i H x H'→g x σ H' fun σ2 H2=>tb { D with nx:=N,ct:=N,bk:=D.nx } σ2 H2)
noncomputable def pinsAt (fp:List Addr) (h:Heap):List (Addr×Obj):=fp.filterMap fun b=>(h.get? b).map fun o=>(b,o)
theorem mem_pinsAt {fp:List Addr} {h:Heap} {b:Addr} {o:Obj} (hb:b∈fp) (e:h.get? b=some o):(b,o)∈pinsAt fp h:=List.mem_filterMap.mpr ⟨b,hb,by rw [e]; rfl⟩
theorem of_pinsAt {fp:List Addr} {h:Heap} {p:Addr×Obj} (hp:p∈pinsAt fp h):p.1∈fp∧h.get? p.1=some p.2:=by
  obtain ⟨b,hb,e⟩:=List.mem_filterMap.mp hp
  cases q:h.get? b with
  | none=>rw [q] at e; cases e
  | some o=>
    rw [q] at e
    have e':(b,o)=p:=Option.some.inj e
    subst e'
    exact ⟨hb,q⟩
theorem Inv.pinned {pins:List (Addr×Obj)} {σ:St} {H:Hp} {s:Shared} {fp:List Addr} (I:Inv X pins σ H s) (hf:∀ b∈fp,FpOk X pins H b) (ho:∀ b∈fp,∃ o,s.heap.get? b=some o∧∀ v,o.data≠.cell v):Inv X (pins++pinsAt fp s.heap) σ H s:=
  I.pins_of fun p hp=>(List.mem_append.mp hp).elim (fun z=>I.pin p (List.mem_append_right _ z)) fun z=>by
    obtain ⟨hb,e⟩:=of_pinsAt z
    obtain ⟨f0,f1,f2,_⟩:=hf p.1 hb
    obtain ⟨o,e',d⟩:=ho p.1 hb
    rw [e] at e'; cases e'
    exact ⟨e,f0,f1,f2,d⟩
theorem Inv.unpinned {pins pl:List (Addr×Obj)} {σ:St} {H:Hp} {s:Shared} (I:Inv X (pins++pl) σ H s):Inv X pins σ H s:=I.pins_of fun p hp=>I.pin p (List.mem_append_right _ (List.mem_append_left _ hp))
theorem ps_for {iter:Expr} {body:List Stmt} {wi:TI} {g:TG} {tb:TS} {pos:Pos} (hp:PassesOwn (model X.prog X.w) X.A X.env X.xe) (hc:X.calm=true) (hi:PI X tg iter wi) (hg:PG X tg g) (hb:PSs X body tb)
    (hs:∀ x,foldedSetIterable iter X.env x=pure x:=by intro _; rfl):PS X (.For tg iter body [] pos) (tFor wi g tb):=by
  intro pins s σ H D I h
  refine wpAny_For (thn (hi pins s σ H _ I h) fun v s1 h1=>thn h1 fun itv s2 h2=>?_) hs
  obtain ⟨it,fp,tn,J,H2,e,I2,T,st2,f2,W,⟨m0,w0⟩,turn⟩:=h2
  subst e
  -- what stays true of the iterator's objects through the loop
  have stat:∀ {H':Hp},(∀ b∈fp,H' b=none)→∀ b∈fp,FpOk X pins H' b:=fun hn b hb=>⟨hn b hb,(f2 b hb).2⟩
  refine codeAny_forLoop_any (fun n s'=>∃ i σ' H',Inv X pins σ' H' s'∧tn i s'.heap∧(∀ b∈fp,H' b=none)∧W i n σ' H') ?_ m0 ⟨0,σ,H2,I2,st2,fun b hb=>(f2 b hb).1,w0⟩
  rintro n s3 ⟨i,σ3,H3,I3,st3,fr3,w3⟩
  rcases turn i n σ3 H3 w3 with ⟨stop,qn⟩ | ⟨go,N,hN,step⟩
  · refine wpAny_passesOwn hp (thn (T.done X rfl rfl rfl hc i pins s3 σ3 H3 X.xe I3 (stat fr3) st3 stop) fun r s4 ⟨hr,I4⟩=>?_)
    subst hr
    exact wpAny_execs_nil ⟨σ3,H3,I4,qn⟩
  · refine wpAny_passesOwn hp (thn (T.item X rfl rfl rfl hc i pins s3 σ3 H3 X.xe I3 (stat fr3) st3 go) fun r s4 ⟨u,hr,h4⟩=>?_)
    subst hr
    refine wpAny_passesOwn hp (thn h4 fun _ s5 hh_=>?_)
    obtain ⟨x,H5,I5,r5,y5,st5,fr5⟩:=hh_
    have I5':=I5.pinned (stat fr5) (T.obj _ _ st5)
    refine wpAny_passesOwn hp (thn (hg _ s5 σ3 H5 x u _ I5' r5 (step x H5 y5)) fun _ s6 hh_=>?_)
    obtain ⟨σ6,H6,I6,q6⟩:=hh_
    refine wpAny_passesOwn hp (thn (hb _ s6 σ6 H6 _ I6 q6) fun f s7 q7=>?_)
    have again:∀ {σ7:St} {H7:Hp},Inv X (pins++pinsAt fp s5.heap) σ7 H7 s7→N σ7 H7→∃ m,m < n∧∃ i σ' H',Inv X pins σ' H' s7∧tn i s7.heap∧(∀ b∈fp,H' b=none)∧W i m σ' H':=fun {σ7 H7} I7 n7=>by
      obtain ⟨m',hm,w7⟩:=hN σ7 H7 n7
      refine ⟨m',hm,i + 1,σ7,H7,I7.unpinned,T.keep _ _ _ st5 fun b hb o e=>(I7.pin (b,o) (List.mem_append_right _ (List.mem_append_right _ (mem_pinsAt hb e)))).1,fun b hb=>?_,w7⟩
      obtain ⟨o,e,d⟩:=T.obj _ _ st5 b hb
      exact (I7.pin (b,o) (List.mem_append_right _ (List.mem_append_right _ (mem_pinsAt hb e)))).2.1
    cases f with
    | next=>obtain ⟨σ7,H7,I7,n7⟩:=q7; exact again I7 n7
    | cont=>obtain ⟨σ7,H7,I7,n7⟩:=q7; exact again I7 n7
    | brk=>obtain ⟨σ7,H7,I7,q7⟩:=q7; exact ⟨σ7,H7,I7.unpinned,q7⟩
    | ret v=>obtain ⟨x7,σ7,H7,I7,r7,q7⟩:=q7; exact ⟨x7,σ7,H7,I7.unpinned,r7,q7⟩
end
noncomputable abbrev R2:=V→V→Hp→VK→Prop
noncomputable def OpR (X:Cx) (f:Value→Value→Sem Value) (r:R2):Prop:=
  ∀ (pins:List (Addr×Obj)) (s:Shared) (σ:St) (H:Hp) (x y:V) (v u:Value) (Q:VK),Inv X pins σ H s→RelV x v→RelV y u→r x y H Q→
    wpAny (model X.prog X.w) X.A (f v u) (EP X pins σ Q) X.xe s
noncomputable def UnR (X:Cx) (f:Value→Sem Value) (r:V→Hp→VK→Prop):Prop:=
  ∀ (pins:List (Addr×Obj)) (s:Shared) (σ:St) (H:Hp) (x:V) (v:Value) (Q:VK),Inv X pins σ H s→RelV x v→r x H Q→
    wpAny (model X.prog X.w) X.A (f v) (EP X pins σ Q) X.xe s
noncomputable def CallR (X:Cx) (f:Value) (r:List V→Hp→VK→Prop):Prop:=
  ∀ (pins:List (Addr×Obj)) (s:Shared) (σ:St) (H:Hp) (xs:List V) (us:List Value) (Q:VK),Inv X pins σ H s→Vals xs us→r xs H Q→
    wpAny (model X.prog X.w) X.A (call f us) (EP X pins σ Q) X.xe s
noncomputable def tOp (r:R2) (ta tb:TE):TE:=fun σ H Q=>ta σ H fun x H1=>tb σ H1 fun y H2=>r x y H2 Q
noncomputable def tUn (r:V→Hp→VK→Prop) (ta:TE):TE:=fun σ H Q=>ta σ H fun x H1=>r x H1 Q
noncomputable def rI (C:Int→Int→Prop) (g:Int→Int→V):R2:=fun x y H Q=>∃ i j,x=.int i∧y=.int j∧C i j∧Q (g i j) H
noncomputable def rI0 (g:Int→Int→V):R2:=fun x y H Q=>∃ i j,x=.int i∧y=.int j∧Q (g i j) H
noncomputable def rU (g:Int→V):V→Hp→VK→Prop:=fun x H Q=>∃ i,x=.int i∧Q (g i) H
section
variable {X:Cx} {a b c:Expr} {ta tb tc:TE} {pos:Pos}
theorem binT (ha:PE X a ta) (hb:PE X b tb) {pins:List (Addr×Obj)} {s:Shared} {σ:St} {H:Hp} {R:V→V→Hp→Prop} (I:Inv X pins σ H s)
    (h:ta σ H fun x H1=>tb σ H1 fun y H2=>R x y H2) {Q:Value→Shared→Prop} {f:Value→Value→Sem Value}
    (hf:∀ v u s2 x y H2,Inv X pins σ H2 s2→RelV x v→RelV y u→R x y H2→wpAny (model X.prog X.w) X.A (f v u) Q X.xe s2) :
    wpAny (model X.prog X.w) X.A (eval a X.env) (fun v s₁=>wpAny (model X.prog X.w) X.A (eval b X.env) (fun u s₂=>wpAny (model X.prog X.w) X.A (f v u) Q X.xe s₂) X.xe s₁) X.xe s:=by
  refine thnG (ha pins s σ H _ I h) fun v s1 x H1 I1 r1 q1=>?_
  refine thnG (hb pins s1 σ H1 _ I1 q1) fun u s2 y H2 I2 r2 q2=>?_
  exact hf v u s2 x y H2 I2 r1 r2 q2
theorem pe_op {op:Operator} {r:R2} (ho:OpR X (binaryOp op) r) (ha:PE X a ta) (hb:PE X b tb):PE X (.BinOp a op b pos) (tOp r ta tb):=by
  intro pins s σ H Q I h
  exact wpAny_BinOp (binT ha hb I h fun v u s2 x y H2 I2 rx ry q=>ho pins s2 σ H2 x y v u Q I2 rx ry q)
theorem pe_un {op:UnaryOp} {r:V→Hp→VK→Prop} (ho:UnR X (unaryOp op) r) (ha:PE X a ta):PE X (.UnaryOp op a pos) (tUn r ta):=by
  intro pins s σ H Q I h
  exact UnaryOp_ (thnG (ha pins s σ H _ I h) fun v s1 x H1 I1 r1 q1=>ho pins s1 σ H1 x v Q I1 r1 q1)
theorem opI {f:Value→Value→Sem Value} {C:Int→Int→Prop} {g:Int→Int→Int}
    (rule:∀ (i j:Int) (t u:Tok) (s:Shared) (Q:Value→Shared→Prop) (E:Value→Shared→Prop),C i j→Q (.int (g i j) s.toks) { s with toks:=s.toks + 1 }→wpAny (model X.prog X.w) X.A (f (.int i t) (.int j u)) Q E s) :
    OpR X f (rI C fun i j=>.int (g i j)):=by
  intro pins s σ H x y v u Q I rx ry h
  obtain ⟨i,j,rfl,rfl,hc,q⟩:=h
  obtain ⟨t,rfl⟩:=rx
  obtain ⟨t',rfl⟩:=ry
  exact rule i j t t' s _ _ hc ⟨.int (g i j),H,I.tok _,⟨_,rfl⟩,q⟩
theorem opI0 {f:Value→Value→Sem Value} {g:Int→Int→Int}
    (rule:∀ (i j:Int) (t u:Tok) (s:Shared) (Q:Value→Shared→Prop) (E:Value→Shared→Prop),Q (.int (g i j) s.toks) { s with toks:=s.toks + 1 }→wpAny (model X.prog X.w) X.A (f (.int i t) (.int j u)) Q E s) :
    OpR X f (rI0 fun i j=>.int (g i j)):=by
  intro pins s σ H x y v u Q I rx ry h
  obtain ⟨i,j,rfl,rfl,q⟩:=h
  obtain ⟨t,rfl⟩:=rx
  obtain ⟨t',rfl⟩:=ry
  exact rule i j t t' s _ _ ⟨.int (g i j),H,I.tok _,⟨_,rfl⟩,q⟩
theorem opB0 {f:Value→Value→Sem Value} {g:Int→Int→Bool}
    (rule:∀ (i j:Int) (t u:Tok) (s:Shared) (Q:Value→Shared→Prop) (E:Value→Shared→Prop),Q (.bool (g i j)) s→wpAny (model X.prog X.w) X.A (f (.int i t) (.int j u)) Q E s) :
    OpR X f (rI0 fun i j=>.bl (g i j)):=by
  intro pins s σ H x y v u Q I rx ry h
  obtain ⟨i,j,rfl,rfl,q⟩:=h
  obtain ⟨t,rfl⟩:=rx
  obtain ⟨t',rfl⟩:=ry
  exact rule i j t t' s _ _ ⟨.bl (g i j),H,I,rfl,q⟩
noncomputable def CDiv (i j:Int):Prop:=0 < j∧j < 1073741824
noncomputable def CPow (i j:Int):Prop:=0≤j∧j≤1000000∧i.natAbs < 2 ^ 64
noncomputable def CMul (i j:Int):Prop:=(-(2 ^ 64) < i∧i < 2 ^ 64)∨(-(2 ^ 64) < j∧j < 2 ^ 64)
theorem CMul.ok {i j:Int} (h:CMul i j):IntMulOk i j:=by
  rcases h with ⟨h1,h2⟩ | ⟨h1,h2⟩
  · exact .of_left (intBits_le_64 h1 h2)
  · exact .of_right (intBits_le_64 h1 h2)
theorem op_add:OpR X (binaryOp .Add) (rI0 fun i j=>.int (i + j)):=opI0 fun _ _ _ _ _ _ _ q=>add_int q
theorem op_sub:OpR X (binaryOp .Sub) (rI0 fun i j=>.int (i - j)):=opI0 fun _ _ _ _ _ _ _ q=>sub_int q
theorem op_mul:OpR X (binaryOp .Mult) (rI CMul fun i j=>.int (i * j)):=opI fun _ _ _ _ _ _ _ hc q=>mul_int q hc.ok
theorem op_fdiv:OpR X (binaryOp .FloorDiv) (rI CDiv fun i j=>.int (i / j)):=opI fun i j _ _ _ _ _ hc q=>by
  have h1:(0:Int) < j:=hc.1
  have h2:j < 1073741824:=hc.2
  exact floordiv_int (by omega) (by rw [Int.fdiv_eq_ediv_of_nonneg i (by omega)]; exact q) (.inl (PyProof.noPylong_small (by omega)))
theorem op_mod:OpR X (binaryOp .Mod) (rI (fun _ j=>0 < j) fun i j=>.int (i % j)):=opI fun i j _ _ _ _ _ hc q=>by
  have h1:(0:Int) < j:=hc
  exact mod_int' (by omega) (by rw [Int.fmod_eq_emod_of_nonneg i (by omega)]; exact q)
theorem op_pow:OpR X (binaryOp .Pow) (rI CPow fun i j=>.int (i ^ j.toNat)):=opI fun _ _ _ _ _ _ _ hc q=>pow_int_small hc.1 hc.2.1 hc.2.2 q
theorem unI {f:Value→Sem Value} {g:Int→Int}
    (rule:∀ (i:Int) (t:Tok) (s:Shared) (Q:Value→Shared→Prop) (E:Value→Shared→Prop),Q (.int (g i) s.toks) { s with toks:=s.toks + 1 }→wpAny (model X.prog X.w) X.A (f (.int i t)) Q E s) :
    UnR X f (rU fun i=>.int (g i)):=by
  intro pins s σ H x v Q I rx h
  obtain ⟨i,rfl,q⟩:=h
  obtain ⟨t,rfl⟩:=rx
  exact rule i t s _ _ ⟨.int (g i),H,I.tok _,⟨_,rfl⟩,q⟩
theorem un_neg:UnR X (unaryOp .USub) (rU fun i=>.int (-i)):=unI fun _ _ _ _ _ q=>neg_int q
end
section
variable {X:Cx} {a b c:Expr} {ta tb tc:TE} {pos:Pos}
theorem op_lt:OpR X (compareOp .Lt) (rI0 fun i j=>.bl (decide (i < j))):=opB0 fun _ _ _ _ _ _ _ q=>lt_int q
theorem op_le:OpR X (compareOp .LtE) (rI0 fun i j=>.bl (decide (i≤j))):=opB0 fun _ _ _ _ _ _ _ q=>le_int q
theorem op_gt:OpR X (compareOp .Gt) (rI0 fun i j=>.bl (decide (j < i))):=opB0 fun _ _ _ _ _ _ _ q=>gt_int q
theorem OpR.or {f:Value→Value→Sem Value} {r r':R2} (h:OpR X f r) (h':OpR X f r'):OpR X f (fun x y H Q=>r x y H Q∨r' x y H Q):=by
  intro pins s σ H x y v u Q I rx ry q
  rcases q with q | q
  · exact h pins s σ H x y v u Q I rx ry q
  · exact h' pins s σ H x y v u Q I rx ry q
theorem nomark (b:Expr) {op:CmpOp} (h:op≠.In:=by decide) (h2:op≠.NotIn:=by decide):behindInMarks op b=false:=by
  have e1:(op == CmpOp.In)=false:=by cases op <;> first | rfl | exact absurd rfl h
  have e2:(op == CmpOp.NotIn)=false:=by cases op <;> first | rfl | exact absurd rfl h2
  cases b <;> simp [behindInMarks,e1,e2]
theorem pe_cmpR {op:CmpOp} {r:R2} (ho:OpR X (compareOp op) r) (ha:PE X a ta) (hb:PE X b tb) (hm:behindInMarks op b=false):PE X (.Compare a [op] [b] pos) (tOp r ta tb):=by
  intro pins s σ H Q I h
  exact wpAny_Compare1 (binT ha hb I h fun v u s2 x y H2 I2 rx ry q=>ho pins s2 σ H2 x y v u Q I2 rx ry q) hm
noncomputable def tTest (t:TE):TT:=fun σ H Q=>t σ H fun x H'=>∃ k,x=.bl k∧Q k H'
theorem pt_cmpR {op:CmpOp} {r:R2} (ho:OpR X (compareOp op) r) (ha:PE X a ta) (hb:PE X b tb) (hm:behindInMarks op b=false):PT X (.Compare a [op] [b] pos) (tTest (tOp r ta tb)):=by
  intro pins s σ H Q I h
  refine wpAny_isTrue_Compare1 (thnG (ha pins s σ H _ I h) fun v s1 x H1 I1 r1 q1=>thnG (hb pins s1 σ H1 _ I1 q1) fun u s2 y H2 I2 r2 q2=>
    thnG (ho pins s2 σ H2 x y v u _ I2 r1 r2 q2) fun c s3 z H3 I3 r3 ⟨k,e,q3⟩=>?_) hm
  subst e
  cases r3
  exact wpAny_truthy_bool ⟨H3,I3,q3⟩
noncomputable def tChain (r r':R2) (ta tb tc:TE):TE:=fun σ H Q=>ta σ H fun x H1=>tb σ H1 fun y H2=>r x y H2 fun z H3=>∃ k,z=.bl k ∧
  (if k=true then tc σ H3 fun w' H4=>r' y w' H4 Q else Q (.bl false) H3)
theorem pe_chain {op op':CmpOp} {r r':R2} (ho:OpR X (compareOp op) r) (ho':OpR X (compareOp op') r') (ha:PE X a ta) (hb:PE X b tb) (hc:PE X c tc)
    (hm:lastMarks [op,op'] [b,c]=false:=by with_unfolding_all rfl):PE X (.Compare a [op,op'] [b,c] pos) (tChain r r' ta tb tc):=by
  intro pins s σ H Q I h
  refine Compare_chain (thnG (ha pins s σ H _ I h) fun v s1 x H1 I1 r1 q1=>chain_link (thnG (hb pins s1 σ H1 _ I1 q1) fun u s2 y H2 I2 r2 q2=>
    thnG (ho pins s2 σ H2 x y v u _ I2 r1 r2 q2) fun d s3 z H3 I3 r3 ⟨k,e,q3⟩=>?_)) hm
  subst e
  cases r3
  refine wpAny_truthy_bool ?_
  cases k with
  | false=>exact ite_ff ⟨.bl false,H3,I3,rfl,q3⟩
  | true=>exact ite_tt (chain_last (thnG (hc pins s3 σ H3 _ I3 q3) fun w' s4 z' H4 I4 r4 q4=>ho' pins s4 σ H4 y z' u w' Q I4 r2 r4 q4))
theorem pt_chain {op op':CmpOp} {r r':R2} (ho:OpR X (compareOp op) r) (ho':OpR X (compareOp op') r') (ha:PE X a ta) (hb:PE X b tb) (hc:PE X c tc)
    (hm:lastMarks [op,op'] [b,c]=false:=by with_unfolding_all rfl):PT X (.Compare a [op,op'] [b,c] pos) (tTest (tChain r r' ta tb tc)):=by
  intro pins s σ H Q I h
  refine isTrue_chain (thnG (ha pins s σ H _ I h) fun v s1 x H1 I1 r1 q1=>test_link (thnG (hb pins s1 σ H1 _ I1 q1) fun u s2 y H2 I2 r2 q2=>
    thnG (ho pins s2 σ H2 x y v u _ I2 r1 r2 q2) fun d s3 z H3 I3 r3 ⟨k,e,q3⟩=>?_)) hm
  subst e
  cases r3
  refine wpAny_truthy_bool ?_
  cases k with
  | false=>
    obtain ⟨k',e',q'⟩:=q3
    cases e'
    exact ite_ff ⟨H3,I3,q'⟩
  | true=>
    refine ite_tt (test_last (thnG (hc pins s3 σ H3 _ I3 q3) fun w' s4 z' H4 I4 r4 q4=>thnG (ho' pins s4 σ H4 y z' u w' _ I4 r2 r4 q4) fun d' s5 z2 H5 I5 r5 hh_=>?_))
    obtain ⟨k2,e2,q5⟩:=hh_
    subst e2
    cases r5
    exact wpAny_truthy_bool ⟨H5,I5,q5⟩
theorem line63:(sizeLine:Nat) < 2 ^ 63:=by rw [sizeLine_eq]; decide
theorem op_add_str:OpR X (binaryOp .Add) (fun x y H Q=>∃ i j,x=.str i∧y=.str j∧i.length + j.length≤sizeLine∧Q (.str (i++j)) H):=by
  intro pins s σ H x y v u Q I rx ry h
  obtain ⟨i,j,rfl,rfl,hz,q⟩:=h
  obtain ⟨t,rfl⟩:=rx
  obtain ⟨t',rfl⟩:=ry
  exact add_str (fun t' tk=>⟨.str (i++j),H,I.tok _,⟨_,rfl⟩,q⟩) hz
theorem vals1 {x:V} {us:List Value} (r:Vals [x] us):∃ u,us=[u]∧RelV x u:=by
  cases r with
  | cons r1 r2=>cases r2; exact ⟨_,rfl,r1⟩
theorem vals2 {x y:V} {us:List Value} (r:Vals [x,y] us):∃ u w',us=[u,w']∧RelV x u∧RelV y w':=by
  cases r with
  | cons r1 r2=>
    cases r2 with
    | cons r3 r4=>cases r4; exact ⟨_,_,rfl,r1,r3⟩
theorem call_max2 (hc:X.calm=true):CallR X (.builtin "max") (fun xs H Q=>∃ i j,xs=[.int i,.int j]∧Q (.int (if j > i then j else i)) H):=by
  intro pins s σ H xs us Q I r h
  obtain ⟨i,j,rfl,q⟩:=h
  obtain ⟨u,w',rfl,⟨t,rfl⟩,⟨t',rfl⟩⟩:=vals2 r
  refine max_two_ints (I.ok.hd hc) fun h' tk k=>⟨_,H,I.kept k,?_,q⟩
  by_cases hj:j > i
  · rw [if_pos hj,if_pos hj]; exact ⟨_,rfl⟩
  · rw [if_neg hj,if_neg hj]; exact ⟨_,rfl⟩
theorem call_min2 (hc:X.calm=true):CallR X (.builtin "min") (fun xs H Q=>∃ i j,xs=[.int i,.int j]∧Q (.int (if j < i then j else i)) H):=by
  intro pins s σ H xs us Q I r h
  obtain ⟨i,j,rfl,q⟩:=h
  obtain ⟨u,w',rfl,⟨t,rfl⟩,⟨t',rfl⟩⟩:=vals2 r
  refine min_two_ints (I.ok.hd hc) fun h' tk k=>⟨_,H,I.kept k,?_,q⟩
  by_cases hj:j < i
  · rw [if_pos hj,if_pos hj]; exact ⟨_,rfl⟩
  · rw [if_neg hj,if_neg hj]; exact ⟨_,rfl⟩
end
structure ObjM (h:Heap) (x dx C:Addr) (mA:Str→Option Value):Prop where
  obj:h.get? x=some (PySem.W.instObj C dx)
  ns:h.Ns1 dx mA
  ne:dx≠x
theorem lookIn_ns {h:Heap} {dx:Addr} {mA:Str→Option Value} (n:h.Ns1 dx mA):∃ od,h.get? dx=some od∧∀ name,PySem.W.lookIn name od=some (mA name):=by
  obtain ⟨o,es,ep,ho,hd,hk,_,hm⟩:=n
  refine ⟨o,ho,fun name=>?_⟩
  have e:=hm name
  unfold nsFind findBy at e
  rw [← Array.find?_toList] at e
  unfold PySem.W.lookIn
  rw [hd]
  dsimp only
  split
  · rename_i y q
    rw [q] at e
    exact congrArg some e
  · rename_i q
    rw [q] at e
    have a:es.toList.any (·.refKey)=false:=by
      rw [List.any_eq_false]
      intro y hy
      obtain ⟨z,t,hkey⟩:=hk y (Array.mem_toList_iff.mp hy)
      simp [DictEntry.refKey,hkey]
    have a':¬ es.toList.any (·.refKey)=true:=by rw [a]; exact Bool.false_ne_true
    rw [if_neg a']
    exact congrArg some e
theorem ObjM.look {h:Heap} {x dx C:Addr} {mA:Str→Option Value} (I:ObjM h x dx C mA):∃ od,PySem.W.InstAt h x (PySem.W.instObj C dx) C (some od)∧∀ name,PySem.W.lookIn name od=some (mA name):=
  let ⟨od,ho,hl⟩:=lookIn_ns I.ns
  ⟨od,⟨I.obj,rfl,rfl,ho⟩,hl⟩
section
variable {prog:Program} {w:World} {A:Around} {E:Value→Shared→Prop} {s:Shared} {K:PySem.W.Frag} {x dx C f:Addr} {mA:Str→Option Value} {name:Str} {v:Value}
theorem get_map {expr:Bool} {Q:Value→Shared→Prop} (X:K.In s.heap) (I:ObjM s.heap x dx C mA) (hg:PySem.W.plainGet K C name=true) (hh:PySem.W.hasDictIn K C=true)
    (ha:PySem.W.findIn K (.ref C) name=some none) (hv:mA name=some v) (hv':PySem.W.handedIn v=true) (h:Q v { s with toks:=s.toks + 1 }) :
    wpAny (model prog w) A (getAttr (.ref x) name expr) Q E s:=by
  obtain ⟨od,J,hl⟩:=I.look
  exact PySem.W.get_value X J (PySem.W.plainGet_of hg).1 (PySem.W.findObj_own hh ha rfl (by rw [hl,hv])) hv' h
theorem get_meth {pl:Sem Bool} {Q:Value×List Value→Shared→Prop} (X:K.In s.heap) (I:ObjM s.heap x dx C mA) (hg:PySem.W.plainGet K C name=true)
    (hf:PySem.W.findIn K (.ref C) name=some (some (.ref f))) (ht:PySem.W.isFn K (.ref f)=true) (hv:mA name=none) (h:Q (.ref f,[.ref x]) s) :
    wpAny (model prog w) A (getMethod (.ref x) name pl) Q E s:=by
  obtain ⟨od,J,hl⟩:=I.look
  exact PySem.W.method_fn X J (PySem.W.plainGet_of hg).1 (PySem.W.plainGet_of hg).2 hf (beq_iff_eq.mp ht) (by show (PySem.W.lookIn name od).map (·.isSome)=some false; rw [hl,hv]; rfl) h
theorem set_map {ns:List Str} {Q:Unit→Shared→Prop} (X:K.In s.heap) (I:ObjM s.heap x dx C mA)
    (hs:PySem.W.findIn K (.ref C) "__setattr__"=some (some (.builtin "object.__setattr__"))) (hp:PySem.W.plainOver K C=true) (ht:PySem.W.takerIn K C name=some none) (hh:PySem.W.hasDictIn K C=true)
    (hw:PySem.Within mA ns) (hsz:ns.length≤sizeLine)
    (h:∀ h',ObjM h' x dx C (fun y=>if y=name then some v else mA y)→Heap.SameBut dx s.heap h'→Q () { s with heap:=h',toks:=s.toks + 2 }) :
    wpAny (model prog w) A (setAttr (.ref x) name v) Q E s:=by
  obtain ⟨od,J,hl⟩:=I.look
  refine PySem.W.set_plain X J hs (PySem.W.osa_open (s:={ s with toks:=s.toks + 1 }) (r:=none) X J hp ht fun b=>?_)
  obtain ⟨cd,hc,hd'⟩:=PySem.W.any_some hh
  have hx:s.heap.get? x=some ⟨.ref C,some dx,.plain,#[]⟩:=I.obj
  refine wpAny_bind (wpAny_pure (wpAny_bind (wpAny_bind (wpAny_loadPart hx (wpAny_bind (PySem.W.Looks.here (s:={ s with toks:=s.toks + 1 }) (PySem.W.looks_clsIn X hc) ?_))))))
  rw [hd']
  refine wpAny_pure (a:=some dx) (wpAny_bind (wpAny_pure (wpAny_bind ?_)))
  refine wpAny_nsSet1 (s:={ s with toks:=s.toks + 1 }) I.ns fun h' hn2 hs2=>?_
  obtain ⟨oD,esD,epD,hoD,hdD,hcD⟩:=hn2.count (PySem.Within.cons name v hw)
  refine wpAny_bind (wpAny_lookBehind hoD (by rw [hdD]; exact pastItsLine_dict (Nat.le_trans hcD (by rw [List.length_cons]; omega))) ?_)
  exact wpAny_pure (h _ ⟨(hs2.2 _ (Ne.symm I.ne)).trans I.obj,hn2,I.ne⟩ hs2)
theorem make_map {R:Result→Shared→Prop} {vs:List Value} {kw:List (Str×Value)} (X:K.In s.heap) (hm:PySem.W.makesIn K C=true)
    (hi:PySem.W.findIn K (.ref C) "__init__"=some (some (.ref f))) (hf:PySem.W.typeIn K (.ref f)=some (.type "function"))
    (h:codeAny (model prog w) (A.under (.builtin "type.__call__" ⟨.ref C::vs,kw⟩)) (.call (.ref f) ⟨.ref (s.heap.objs.size + 1)::vs,kw⟩) (PySem.W.InitBack (s.heap.objs.size + 1) R)
      { s with heap:=(s.heap.push PySem.W.emptyDict).push (PySem.W.instObj C s.heap.objs.size) }) :
    codeAny (model prog w) A (.call (.ref C) ⟨vs,kw⟩) R s:=by
  obtain ⟨hh,g,d,t,os⟩:=s
  exact PySem.W.make_core (PySem.W.makes_of X hm) (PySem.W.looks_findIn X hi) (fun self=>PySem.W.bind_fn X self hf) (.inl rfl) h
end
noncomputable def putF (f:Str) (v:V):List (Str×V)→List (Str×V)
  | []=>[(f,v)]
  | (g,x)::r=>if g=f then (g,v)::r else (g,x)::putF f v r
theorem lookup_putF (f g:Str) (v:V):∀ fs:List (Str×V),(putF f v fs).lookup g=if g=f then some v else fs.lookup g
  | []=>by
    show List.lookup g [(f,v)]=_
    by_cases h:g=f
    · have hb:(g == f)=true:=beq_iff_eq.mpr h
      simp only [List.lookup,hb,if_pos h]
    · have hb:(g == f)=false:=beq_eq_false_iff_ne.mpr h
      simp only [List.lookup,hb,if_neg h]
  | (k,x)::r=>by
    have ih:=lookup_putF f g v r
    rw [show putF f v ((k,x)::r)=(if k=f then (k,v)::r else (k,x)::putF f v r) from rfl]
    by_cases hk:k=f
    · rw [if_pos hk]
      by_cases h:g=k
      · have hb:(g == k)=true:=beq_iff_eq.mpr h
        simp only [List.lookup,hb,if_pos (h.trans hk)]
      · have hb:(g == k)=false:=beq_eq_false_iff_ne.mpr h
        simp only [List.lookup,hb,if_neg (fun e:g=f=>h (e.trans hk.symm))]
    · rw [if_neg hk]
      by_cases h:g=k
      · have hb:(g == k)=true:=beq_iff_eq.mpr h
        simp only [List.lookup,hb,if_neg (fun e:g=f=>hk (h.symm.trans e))]
      · have hb:(g == k)=false:=beq_eq_false_iff_ne.mpr h
        simp only [List.lookup,hb]
        exact ih
theorem keys_putF (f:Str) (v:V):∀ fs:List (Str×V),f∈(putF f v fs).map (·.1)∧∀ g,g∈fs.map (·.1)→g∈(putF f v fs).map (·.1)
  | []=>⟨by simp [putF],fun g h=>by simp at h⟩
  | (k,x)::r=>by
    obtain ⟨i1,i2⟩:=keys_putF f v r
    rw [show putF f v ((k,x)::r)=(if k=f then (k,v)::r else (k,x)::putF f v r) from rfl]
    by_cases hk:k=f
    · rw [if_pos hk]
      subst hk
      exact ⟨by simp,fun g h=>by simpa using h⟩
    · rw [if_neg hk]
      refine ⟨?_,fun g h=>?_⟩
      · rw [List.map_cons]
        exact List.mem_cons_of_mem _ i1
      · rw [List.map_cons] at h ⊢
        rcases List.mem_cons.mp h with e | e
        · exact List.mem_cons.mpr (.inl e)
        · exact List.mem_cons_of_mem _ (i2 g e)
theorem length_putF (f:Str) (v:V):∀ fs:List (Str×V),(putF f v fs).length≤fs.length + 1
  | []=>by simp [putF]
  | (k,x)::r=>by
    have ih:=length_putF f v r
    rw [show putF f v ((k,x)::r)=(if k=f then (k,v)::r else (k,x)::putF f v r) from rfl]
    by_cases hk:k=f
    · rw [if_pos hk,List.length_cons,List.length_cons]; omega
    · rw [if_neg hk,List.length_cons,List.length_cons]; omega
theorem RelO.some_of {v:V} {o:Option Value} (r:RelO (some v) o):∃ u,o=some u∧RelV v u:=by
  cases o with
  | none=>exact (show False from r).elim
  | some u=>exact ⟨u,rfl,r⟩
theorem RelO.none_of {o:Option Value} (r:RelO none o):o=none:=by
  cases o with
  | none=>rfl
  | some u=>exact (show False from r).elim
theorem handed_of {v:V} {u:Value} (r:RelV v u):PySem.W.handedIn u=true:=by
  cases v with
  | non=>cases (show u=Value.none from r); rfl
  | bl b=>cases (show u=Value.bool b from r); rfl
  | int i=>obtain ⟨t,e⟩:=(show ∃ t,u=Value.int i t from r); cases e; rfl
  | str x=>obtain ⟨t,e⟩:=(show ∃ t,u=Value.str x t from r); cases e; rfl
  | byt b=>obtain ⟨t,e⟩:=(show ∃ t,u=Value.bytes b t from r); cases e; rfl
  | flt b=>obtain ⟨t,e⟩:=(show ∃ t,u=Value.float b t from r); cases e; rfl
  | ref a=>cases (show u=Value.ref a from r); rfl
  | ty n=>cases (show u=Value.type n from r); rfl
section
variable {P:Program} {w:World} {H H':Hp} {h h':Heap} {a C dx:Addr} {fs fs':List (Str×V)}
theorem ins_get (hok:HOk P w H h) (e:H a=some (.ins C dx fs)):∃ mA,ObjM h a dx C mA∧(∀ f,RelO (fs.lookup f) (mA f))∧PySem.Within mA (fs.map (·.1))∧fs.length≤1000∧H dx=some (.own a):=by
  obtain ⟨d,z,ne,ob,mA,n,r,q⟩:=(show ObjOk P w H h a (.ins C dx fs) from hok a _ e)
  exact ⟨mA,⟨ob,n,ne⟩,r,q,z,d⟩
end
structure Cls (K:PySem.W.Frag) (C:Addr):Prop where
  pg:PySem.W.plainGet K C Str.empty=true
  hd:PySem.W.hasDictIn K C=true
  po:PySem.W.plainOver K C=true
  sa:PySem.W.findIn K (.ref C) "__setattr__"=some (some (.builtin "object.__setattr__"))
theorem Cls.get {K:PySem.W.Frag} {C:Addr} (c:Cls K C) (f:Str):PySem.W.plainGet K C f=true:=c.pg
noncomputable def NoAttr (K:PySem.W.Frag) (C:Addr) (f:Str):Prop:=PySem.W.findIn K (.ref C) f=some none
theorem NoAttr.taker {K:PySem.W.Frag} {C:Addr} {f:Str} (n:NoAttr K C f):PySem.W.takerIn K C f=some none:=by
  unfold PySem.W.takerIn
  rw [show PySem.W.findIn K (.ref C) f=some none from n]
  rfl
structure Meth (K:PySem.W.Frag) (C:Addr) (m:Str) (f:Addr):Prop where
  at_:PySem.W.findIn K (.ref C) m=some (some (.ref f))
  fn:PySem.W.isFn K (.ref f)=true
  kp:PySem.W.keepIn K (.ref f)=true
section
variable {X:Cx} {pins:List (Addr×Obj)} {σ:St} {H:Hp} {s:Shared} {a C dx:Addr} {fs:List (Str×V)} {f:Str} {v:V} {A:Around} {E:Value→Shared→Prop}
theorem getattr_ok {b:Bool} {Q:Value→Shared→Prop} (I:Inv X pins σ H s) (e:H a=some (.ins C dx fs)) (c:Cls X.K C) (n:NoAttr X.K C f) (l:fs.lookup f=some v)
    (h:∀ u s',Inv X pins σ H s'→RelV v u→Q u s'):wpAny (model X.prog X.w) A (getAttr (.ref a) f b) Q E s:=by
  obtain ⟨mA,O,r,_,_,_⟩:=ins_get I.hok e
  obtain ⟨u,hu,ru⟩:=RelO.some_of (v:=v) (o:=mA f) (by rw [← l]; exact r f)
  exact get_map I.kIn O (c.get f) c.hd n hu (handed_of ru) (h u _ (I.tok _) ru)
theorem getmeth_ok {m:Str} {g:Addr} {pl:Sem Bool} {Q:Value×List Value→Shared→Prop} (I:Inv X pins σ H s) (e:H a=some (.ins C dx fs)) (c:Cls X.K C) (k:Meth X.K C m g) (l:fs.lookup m=none)
    (h:Q (.ref g,[.ref a]) s):wpAny (model X.prog X.w) A (getMethod (.ref a) m pl) Q E s:=by
  obtain ⟨mA,O,r,_,_,_⟩:=ins_get I.hok e
  have hn:mA m=none:=RelO.none_of (by rw [← l]; exact r m)
  exact get_meth I.kIn O (c.get m) k.at_ k.fn hn h
theorem setattr_ok {y:V} {u:Value} {Q:Unit→Shared→Prop} (I:Inv X pins σ H s) (e:H a=some (.ins C dx fs)) (c:Cls X.K C) (n:NoAttr X.K C f) (hl:fs.length < 1000) (ry:RelV y u)
    (h:∀ s',Inv X pins σ (upd H a (.ins C dx (putF f y fs))) s'→Q () s'):wpAny (model X.prog X.w) A (setAttr (.ref a) f u) Q E s:=by
  obtain ⟨mA,O,r,wi,_,ho⟩:=ins_get I.hok e
  have hz:(fs.map (·.1)).length≤sizeLine:=by rw [List.length_map,sizeLine_eq]; omega
  refine set_map I.kIn O c.sa c.po n.taker c.hd wi hz fun h' O' sb=>h _ ?_
  have hd:∃ o,h'.get? dx=some o:=let ⟨o,_,_,e',_⟩:=O'.ns; ⟨o,e'⟩
  refine I.write (x:=a) (e:=dx) (by rw [e]; exact True.intro) (.inr ho) (fun b q hb z=>(sb.2 b hb).trans z) hd ?_
  refine ⟨by rw [upd_ne O.ne]; exact ho,?_,O.ne,O'.obj,_,O'.ns,fun g=>?_,fun g hg=>?_⟩
  · have:=length_putF f y fs; omega
  · show RelO ((putF f y fs).lookup g) (if g=f then some u else mA g)
    rw [lookup_putF]
    by_cases q:g=f
    · rw [if_pos q,if_pos q]; exact ry
    · rw [if_neg q,if_neg q]; exact r g
  · by_cases q:g=f
    · rw [q]; exact (keys_putF f y fs).1
    · refine (keys_putF f y fs).2 g (wi g fun z=>hg ?_)
      show (if g=f then some u else mA g)=none
      rw [if_neg q]; exact z
theorem Inv.made (I:Inv X pins σ H s):Inv X pins σ (upd (upd H s.heap.objs.size (.own (s.heap.objs.size + 1))) (s.heap.objs.size + 1) (.ins C s.heap.objs.size []))
    { s with heap:=(s.heap.push PySem.W.emptyDict).push (PySem.W.instObj C s.heap.objs.size) }:=by
  have e1:(s.heap.push PySem.W.emptyDict).get? s.heap.objs.size=some PySem.W.emptyDict:=Heap.get?_push_size s.heap rfl
  have e2:((s.heap.push PySem.W.emptyDict).push (PySem.W.instObj C s.heap.objs.size)).get? (s.heap.objs.size + 1)=some (PySem.W.instObj C s.heap.objs.size):=by
    have:=Heap.get?_push_size (s.heap.push PySem.W.emptyDict) (o:=PySem.W.instObj C s.heap.objs.size) rfl
    rwa [Heap.size_push] at this
  have e3:(s.heap.push PySem.W.emptyDict).Ns s.heap.objs.size (fun _=>none):=⟨PySem.W.emptyDict,#[],_,e1,rfl,(fun e he=>absurd he (by simp)),fun _=>rfl⟩
  have I1:=I.laid (a:=s.heap.objs.size) (o:=.own (s.heap.objs.size + 1)) (h':=s.heap.push PySem.W.emptyDict) (t':=s.toks) (fun b u q=>Heap.get?_push_of_some _ q) (Nat.le_refl _) ⟨_,e1⟩
  refine I1.laid (a:=s.heap.objs.size + 1) (o:=.ins C s.heap.objs.size []) (t':=s.toks) (fun b u q=>Heap.get?_push_of_some _ q) (Nat.le_of_eq (Heap.size_push _ _)) ?_
  have ne:s.heap.objs.size≠s.heap.objs.size + 1:=Nat.ne_of_lt (Nat.lt_succ_self _)
  refine ⟨by rw [upd_ne ne,upd_same],Nat.zero_le _,ne,e2,fun _=>none,(Heap.Ns1.of_empty e3).at fun o q=>Heap.get?_push_of_some _ q,fun _=>True.intro,fun y hy=>absurd rfl hy⟩
theorem attr_of {prog:Program} {w:World} {env:Env} {e:Expr} {f:Str} {pos:Pos} {s:Shared} {Q:Value→Shared→Prop} (hb:attributeBase e f env (eval e env)=eval e env)
    (h:wpAny (model prog w) A (eval e env) (fun o s₁=>wpAny (model prog w) A (getAttr o f true) Q E s₁) E s):wpAny (model prog w) A (eval (.Attribute e f pos) env) Q E s:=
  Attribute_any_ h (by rw [arm_eval_Attribute,hb])
end
noncomputable def tFld (K:PySem.W.Frag) (ta:TE) (f:Str):TE:=fun σ H Q=>ta σ H fun x H1=>∃ a C dx fs v,x=.ref a∧H1 a=some (.ins C dx fs)∧Cls K C∧NoAttr K C f∧fs.lookup f=some v∧Q v H1
noncomputable def sFld (K:PySem.W.Frag) (ta tv:TE) (f:Str):TS:=fun D σ H=>tv σ H fun y H1=>ta σ H1 fun x H2=>∃ a C dx fs,x=.ref a∧H2 a=some (.ins C dx fs)∧Cls K C∧NoAttr K C f∧fs.length < 1000 ∧
  D.nx σ (upd H2 a (.ins C dx (putF f y fs)))
section
variable {X:Cx} {o e value:Expr} {f:Str} {pos pos' tpos:Pos} {ta tv:TE}
theorem pe_fld (he:PE X e ta) (hb:attributeBase e f X.env (eval e X.env)=eval e X.env):PE X (.Attribute e f pos) (tFld X.K ta f):=by
  intro pins s σ H Q I h
  refine attr_of hb (thnG (he pins s σ H _ I h) fun u s1 x H1 I1 rx hh_=>?_)
  obtain ⟨a,C,dx,fs,v,ex,ea,c,n,l,q⟩:=hh_
  subst ex
  obtain rfl:u=Value.ref a:=rx
  exact getattr_ok I1 ea c n l fun u' s2 I2 ru=>⟨v,H1,I2,ru,q⟩
theorem ps_fld (ha:PE X o ta) (hv:PE X value tv) (hs:swapsWith value (some (.Attribute o f pos')) pos.line X.env=pure false):PS X (.Assign [.Attribute o f pos'] value pos) (sFld X.K ta tv f):=by
  intro pins s σ H D I h
  refine plainObj_wpAny_Assign_Attribute (thnG (hv pins s σ H _ I h) fun u s1 y H1 I1 ry q=>thnG (ha pins s1 σ H1 _ I1 q) fun ov s2 x H2 I2 rx hh_=>?_) hs
  obtain ⟨a,C,dx,fs,ex,ea,c,n,l,q2⟩:=hh_
  subst ex
  obtain rfl:ov=Value.ref a:=rx
  exact setattr_ok I2 ea c n l ry fun s3 I3=>⟨σ,_,I3,q2⟩
end
section
variable {X:Cx} {pins:List (Addr×Obj)} {σ:St} {H:Hp} {s:Shared} {A:Around} {E:Value→Shared→Prop} {Q:Value→Shared→Prop} {c:Value} {b:Bool}
inductive TyOf (K:PySem.W.Frag) (H:Hp):V→Value→Prop where
  | non:TyOf K H .non (.type "NoneType")
  | bl (x:Bool):TyOf K H (.bl x) (.type "bool")
  | int (i:Int):TyOf K H (.int i) (.type "int")
  | str (x:Str):TyOf K H (.str x) (.type "str")
  | flt (x:UInt64):TyOf K H (.flt x) (.type "float")
  | lst {a:Addr} {xs:List V} (e:H a=some (.lst xs)):TyOf K H (.ref a) (.type "list")
  | frz {a:Addr} {o:Obj} {xs:List V} (e:H a=some (.frz o (.lst xs))):TyOf K H (.ref a) (.type "list")
  | tup {a:Addr} {xs:List V} (e:H a=some (.tup xs)):TyOf K H (.ref a) (.type "tuple")
  | dK {a:Addr} {kvs:List (Key×V)} (e:H a=some (.dK kvs)):TyOf K H (.ref a) (.type "dict")
  | dT {a:Addr} {kvs:List (List Key×V)} (e:H a=some (.dT kvs)):TyOf K H (.ref a) (.type "dict")
  | ins {a C dx:Addr} {fs:List (Str×V)} (e:H a=some (.ins C dx fs)) (cl:Cls K C) (ha:PySem.W.findIn K (.ref C) "__class__"=some (some (.builtin "object.__class__")))
      (hn:PySem.W.specialIn K (.builtin "object.__class__") "__get__"=some (some (.builtin "getset_descriptor.__get__"))) (htk:PySem.W.takesIn K (.builtin "object.__class__")=some true)
      (hm:PySem.W.mroIn K C (.type "object")=some true):TyOf K H (.ref a) (.ref C)
theorem isinst_ok {x:V} {u t:Value} (I:Inv X pins σ H s) (rx:RelV x u) (ty:TyOf X.K H x t) (e:PySem.W.kitOne X.K t c=some b) (h:∀ tk,Q (.bool b) { s with toks:=tk }) :
    wpAny (model X.prog X.w) A (call (.builtin "isinstance") [u,c]) Q E s:=by
  cases ty with
  | non=>cases (show u=Value.none from rx); exact PySem.W.kia_one PySem.W.kitx_none I.kIn True.intro e (fun z=>nomatch z) h
  | bl y=>cases (show u=Value.bool y from rx); exact PySem.W.kia_one PySem.W.kitx_bool I.kIn True.intro e (fun z=>nomatch z) h
  | int i=>obtain ⟨t,q⟩:=(show ∃ t,u=Value.int i t from rx); cases q; exact PySem.W.kia_one PySem.W.kitx_int I.kIn True.intro e (fun z=>nomatch z) h
  | str y=>obtain ⟨t,q⟩:=(show ∃ t,u=Value.str y t from rx); cases q; exact PySem.W.kia_one PySem.W.kitx_str I.kIn True.intro e (fun z=>nomatch z) h
  | flt y=>obtain ⟨t,q⟩:=(show ∃ t,u=Value.float y t from rx); cases q; exact PySem.W.kia_one PySem.W.kitx_float I.kIn True.intro e (fun z=>nomatch z) h
  | @lst a xs ea=>
    cases (show u=Value.ref a from rx)
    obtain ⟨_,_,n,_,h1⟩:=(show ObjOk X.prog X.w H s.heap a (.lst xs) from I.hok a _ ea)
    exact PySem.W.kia_one PySem.W.kitx_list I.kIn ⟨_,h1,rfl⟩ e (fun z=>nomatch z) h
  | @frz a ob xs ea=>
    cases (show u=Value.ref a from rx)
    obtain ⟨_,_,_,n,_,h1⟩:=(show ObjOk X.prog X.w H s.heap a (.frz ob (.lst xs)) from I.hok a _ ea)
    exact PySem.W.kia_one PySem.W.kitx_list I.kIn ⟨_,h1,rfl⟩ e (fun z=>nomatch z) h
  | @tup a xs ea=>
    cases (show u=Value.ref a from rx)
    obtain ⟨_,_,_,p,_⟩:=(show ObjOk X.prog X.w H s.heap a (.tup xs) from I.hok a _ ea)
    obtain ⟨o,h1,h2,_⟩:=p
    exact PySem.W.kia_one PySem.W.kitx_tuple I.kIn ⟨o,h1,h2⟩ e (fun z=>nomatch z) h
  | @dK a kvs ea=>
    cases (show u=Value.ref a from rx)
    obtain ⟨_,_,vs,_,p⟩:=(show ObjOk X.prog X.w H s.heap a (.dK kvs) from I.hok a _ ea)
    obtain ⟨o,es,ep,h1,h2,_⟩:=p
    exact PySem.W.kia_one PySem.W.kitx_dict I.kIn ⟨o,h1,h2.1⟩ e (fun z=>nomatch z) h
  | @dT a kvs ea=>
    cases (show u=Value.ref a from rx)
    obtain ⟨_,_,xs,_,o,es,ep,h1,h2,_⟩:=(show ObjOk X.prog X.w H s.heap a (.dT kvs) from I.hok a _ ea)
    exact PySem.W.kia_one PySem.W.kitx_dict I.kIn ⟨o,h1,h2.1⟩ e (fun z=>nomatch z) h
  | @ins a C dx fs ea cl ha hn htk hm=>
    cases (show u=Value.ref a from rx)
    obtain ⟨mA,O,_⟩:=ins_get I.hok ea
    obtain ⟨od,J,_⟩:=O.look
    exact PySem.W.kia_one (PySem.W.kitx_own (cl.get _) cl.hd ha hn htk hm) I.kIn J e (fun z=>nomatch z) h
end
structure Room (k:Nat) (A:Around):Prop where
  hd:A.handled=none
  dp:A.depth + 3 * k + 5 < recursionLimit
  un:A.units + 16 * k + 200 < cLine
theorem Room.mono {j k:Nat} {A:Around} (r:Room k A) (h:j≤k):Room j A:=⟨r.hd,by have:=r.dp; omega,by have:=r.un; omega⟩
theorem Room.deeper {k:Nat} {A:Around} (r:Room (k + 1) A) (env:Env):Room k (A.deeper env):=
  ⟨r.hd,by have:=r.dp; show A.depth + 1 + 3 * k + 5 < _; omega,by have:=r.un; show A.units + 3 + 16 * k + 200 < _; omega⟩
theorem make_depth {A:Around} {C:Addr} {us:List Value} {kw:List (Str×Value)}:(A.under (.builtin "type.__call__" ⟨.ref C::us,kw⟩)).depth=A.depth + 1:=by
  first | rfl | simp [Around.under,Code.weight,Code.isCreation,Code.isGuard,Code.isCaller,Code.frames,Code.isFrame,guardIds]
theorem make_units {A:Around} {C:Addr} {us:List Value} {kw:List (Str×Value)}:(A.under (.builtin "type.__call__" ⟨.ref C::us,kw⟩)).units=A.units + 1:=by
  first | rfl | simp [Around.under,Code.cUnits,Code.frames,Code.isFrame]
theorem Room.make {k:Nat} {A:Around} (r:Room (k + 1) A) (C:Addr) (us:List Value) (kw:List (Str×Value)):Room k (A.under (.builtin "type.__call__" ⟨.ref C::us,kw⟩)):=
  ⟨r.hd,by have:=r.dp; rw [make_depth]; omega,by have:=r.un; rw [make_units]; omega⟩
theorem Room.depth {k:Nat} {A:Around} (r:Room k A):A.depth < recursionLimit:=by have:=r.dp; omega
noncomputable def tNil:TA:=fun _ H Q=>Q [] H
noncomputable def tCons (ta:TE) (tr:TA):TA:=fun σ H Q=>ta σ H fun x H1=>tr σ H1 fun xs H2=>Q (x::xs) H2
section
variable {X:Cx} {e:Expr} {es:List Expr} {te:TE} {t:TA} {pos:Pos}
theorem pa_nil:PA X [] tNil:=fun _ _ _ _ H Q I h=>Calls.spliced_nil ⟨[],H,I,.nil,h⟩
theorem pa_cons (ha:PE X e te) (hr:PA X es t) (hs:starEach (e::es) X.env=(false,eval e X.env)::starEach es X.env:=by rfl):PA X (e::es) (tCons te t):=by
  intro pos pins s σ H Q I h
  rw [hs]
  show wpAny _ _ (spliced ((false,eval e X.env)::backTo pos (starEach es X.env))) _ _ s
  refine Calls.spliced_cons (thnG (ha pins s σ H _ I h) fun u s1 x H1 I1 r1 q1=>?_)
  exact thnG (hr pos pins s1 σ H1 _ I1 q1) fun us s2 xs H2 I2 r2 q2=>⟨x::xs,H2,I2,.cons r1 r2,q2⟩
noncomputable def tTup (t:TA):TE:=fun σ H Q=>t σ H fun xs H1=>xs.length≤sizeLine∧∀ p,H1 p=none→Q (.ref p) (upd H1 p (.tup xs))
noncomputable def tLst (t:TA):TE:=fun σ H Q=>t σ H fun xs H1=>xs.length≤sizeLine∧∀ p,H1 p=none→Q (.ref p) (upd H1 p (.lst xs))
theorem pe_tup {x1} (h:PA X es t):PE X (.Tuple es x1 pos) (tTup t):=by
  intro pins s σ H Q I hq
  refine wpAny_Tuple_spliced (thnG (h pos pins s σ H _ I hq) fun us s1 xs H1 I1 r ⟨z,q⟩=>⟨by rw [← r.length]; exact z,?_⟩)
  have hf:H1 s1.heap.objs.size=none:=I1.hok.fresh (Nat.le_refl _)
  refine ⟨.ref s1.heap.objs.size,upd H1 s1.heap.objs.size (.tup xs),I1.laid (t':=s1.toks) (fun b u e=>Heap.get?_push_of_some _ e) (Nat.le_refl _) ?_,rfl,q _ hf⟩
  exact ⟨z,us,r,⟨_,Heap.get?_push_size _ rfl,rfl,_,rfl⟩,_,Heap.get?_push_size _ rfl,rfl⟩
theorem pe_lst (h:PA X es t):PE X (.List es pos) (tLst t):=by
  intro pins s σ H Q I hq
  refine wpAny_List_spliced (thnG (h pos pins s σ H _ I hq) fun us s1 xs H1 I1 r ⟨z,q⟩=>⟨by rw [← r.length]; exact z,?_⟩)
  have hf:H1 s1.heap.objs.size=none:=I1.hok.fresh (Nat.le_refl _)
  refine ⟨.ref s1.heap.objs.size,upd H1 s1.heap.objs.size (.lst xs),I1.laid (t':=s1.toks) (fun b u e=>Heap.get?_push_of_some _ e) (Nat.le_refl _) ?_,rfl,q _ hf⟩
  exact ⟨z,us,0,r,Heap.get?_push_size _ rfl⟩
end
noncomputable abbrev Sp:=List V→Hp→VK→XK→Prop
noncomputable abbrev CXT:=List Env→Hp→Shared→XK→Value→Shared→Prop
structure Env0 (P:Program) (w:World) (K:PySem.W.Frag) (mg:Str→Option Value) (base:Heap) (A:Around) (outer:List Env) (s:Shared) (H:Hp):Prop where
  frames:A.frames=some outer
  mod:Mod K mg base
  bs:∀ b o,base.get? b=some o→s.heap.get? b=some o∧H b=none
  bsz:base.objs.size≤s.heap.objs.size
  funs:s.heap.FunFrames base outer
  frf:∀ b∈frs outer,H b=none
  hok:HOk P w H s.heap
  bare:AllBare s.gens
noncomputable def CE (outer:List Env) (P:Program) (w:World) (H:Hp) (s:Shared) (Q:VK) (u:Value) (s':Shared):Prop:=
  ∃ v H',s'.os=s.os∧AllBare s'.gens∧Un (frs outer) [] H H' s.heap s'.heap∧HOk P w H' s'.heap∧RelV v u∧Q v H'
noncomputable def CR (CX:CXT) (outer:List Env) (P:Program) (w:World) (H:Hp) (s:Shared) (Q:VK) (E:XK) (r:Result) (s':Shared):Prop:=
  match r with
  | .ok (.ret u)=>CE outer P w H s Q u s'
  | .ok _=>False
  | .error e=>CX outer H s E e s'
structure FnOk (P:Program) (w:World) (K:PySem.W.Frag) (mg:Str→Option Value) (base:Heap) (CX:CXT) (k:Nat) (f:Addr) (fd:FuncData) (ps:List Str) (sp:Sp):Prop where
  len:∀ vs H Q E,sp vs H Q E→vs.length=ps.length
  run:∀ (A:Around) (outer:List Env) (s:Shared) (H:Hp) (args:Args) (us:List Value) (vs:List V) (Q:VK) (E:XK),Room k A→Env0 P w K mg base A outer s H→BindsTo s fd args (ps.zip us)→Vals vs us→sp vs H Q E→
    codeAny (model P w) A (.call (.ref f) args) (CR CX outer P w H s Q E) s
theorem FnOk.imp {P:Program} {w:World} {K:PySem.W.Frag} {mg:Str→Option Value} {base:Heap} {CX:CXT} {k:Nat} {f:Addr} {fd:FuncData} {ps:List Str} {sp sp':Sp} (F:FnOk P w K mg base CX k f fd ps sp)
    (h:∀ vs H Q E,sp' vs H Q E→sp vs H Q E):FnOk P w K mg base CX k f fd ps sp':=
  ⟨fun vs H Q E q=>F.len vs H Q E (h _ _ _ _ q),fun A outer s H args us vs Q E hr he hb hv hs=>F.run A outer s H args us vs Q E hr he hb hv (h _ _ _ _ hs)⟩
theorem Env0.make {P:Program} {w:World} {K:PySem.W.Frag} {mg:Str→Option Value} {base:Heap} {A:Around} {outer:List Env} {s:Shared} {H:Hp} (e:Env0 P w K mg base A outer s H) (C:Addr) (us:List Value) (kw:List (Str×Value)) :
    Env0 P w K mg base (A.under (.builtin "type.__call__" ⟨.ref C::us,kw⟩)) outer s H:=⟨by first | exact e.frames | (simpa [Around.under,Code.envs,Code.isFrame,pushEnvs] using e.frames),e.mod,e.bs,e.bsz,e.funs,e.frf,e.hok,e.bare⟩
section
variable {X:Cx} {pins:List (Addr×Obj)} {σ:St} {H:Hp} {s s':Shared}
theorem Inv.env0 (I:Inv X pins σ H s):Env0 X.prog X.w X.K X.mg X.base X.A X.stack s H:=
  ⟨I.ok.frames,I.ok.mod,I.bs,Nat.le_trans I.ok.bsz I.sz,I.stack,I.stkFree,I.hok,I.bare⟩
theorem Inv.after {Q:VK} {u:Value} (I:Inv X pins σ H s) (h:CE X.stack X.prog X.w H s Q u s'):EP X pins σ Q u s':=by
  obtain ⟨v,H',os,bare,un,hok,r,q⟩:=h
  obtain ⟨hh,g,d,t,os'⟩:=s'
  obtain rfl:os'=s.os:=os
  exact ⟨v,H',I.call (h':=hh) (g':=g) (d':=d) (t':=t) (ch:=[]) un hok bare (fun b z=>absurd z (by simp)),r,q⟩
end
noncomputable def tCall (sp:Sp) (dvs:List V) (E:XK) (t:TA):TE:=fun σ H Q=>t σ H fun vs H1=>sp (vs++dvs) H1 Q E
noncomputable def tMeth (C:Addr) (m:Str) (sp:Sp) (dvs:List V) (E:XK) (ta:TE) (t:TA):TE:=fun σ H Q=>ta σ H fun x H1=>∃ a dx fs,x=.ref a∧H1 a=some (.ins C dx fs)∧fs.lookup m=none ∧
  t σ H1 fun vs H2=>sp (x::(vs++dvs)) H2 Q E
noncomputable def tMake (C:Addr) (sp:Sp) (dvs:List V) (E:XK) (t:TA):TE:=fun σ H Q=>t σ H fun vs H1=>∀ x dx,H1 x=none→H1 dx=none→dx≠x→
  sp (.ref x::(vs++dvs)) (upd (upd H1 dx (.own x)) x (.ins C dx [])) (fun v H2=>v=.non∧Q (.ref x) H2) E
noncomputable def Binds (K:PySem.W.Frag) (fd:FuncData) (ps:List Str) (ds:List Value):Prop:=
  ∀ (s:Shared) (us:List Value),K.In s.heap→(us++ds).length=ps.length→BindsTo s fd ⟨us,[]⟩ (ps.zip (us++ds))
theorem Binds.all {K:PySem.W.Frag} {fd:FuncData} {ps:List Str} (h:∀ us:List Value,us.length=ps.length→bindArgs fd ⟨us,[]⟩=pure (ps.zip us)):Binds K fd ps []:=fun s us _ hl=>by
  rw [List.append_nil] at hl ⊢
  exact .of_eq (h us hl)
noncomputable def Passes (CX:CXT) (X:Cx) (E:XK):Prop:=∀ (pins:List (Addr×Obj)) (σ:St) (H:Hp) (s:Shared) (e:Value) (s':Shared),Inv X pins σ H s→CX X.stack H s E e s'→X.xe e s'
section
variable {X:Cx} {CX:CXT} {k:Nat} {f C:Addr} {fd:FuncData} {ps:List Str} {sp:Sp} {dvs:List V} {ds:List Value} {E:XK} {x m:Str} {p pos apos:Pos} {e o:Expr} {es:List Expr} {ta:TE} {t:TA}
theorem run_fn {pins:List (Addr×Obj)} {σ:St} {H:Hp} {s:Shared} {Q:VK} {us:List Value} {vs:List V} (F:FnOk X.prog X.w X.K X.mg X.base CX k f fd ps sp) (hr:Room k X.A) (hb:Binds X.K fd ps ds) (hd:Vals dvs ds) (hx:Passes CX X E)
    (I:Inv X pins σ H s) (r:Vals vs us) (h:sp (vs++dvs) H Q E):wpAny (model X.prog X.w) X.A (call (.ref f) us) (EP X pins σ Q) X.xe s:=by
  have r2:Vals (vs++dvs) (us++ds):=r.append hd
  have hl:(us++ds).length=ps.length:=by rw [← r2.length]; exact F.len _ _ _ _ h
  refine wpAny_call (codeAny_mono (F.run X.A X.stack s H ⟨us,[]⟩ (us++ds) (vs++dvs) Q E hr I.env0 (hb s us I.kIn hl) r2 h) fun r s' hq=>?_)
  cases r with
  | error e=>exact hx pins σ H s e s' I hq
  | ok fl=>
    cases fl with
    | ret u=>exact I.after hq
    | next=>exact False.elim hq
    | brk=>exact False.elim hq
    | cont=>exact False.elim hq
theorem pe_call (F:FnOk X.prog X.w X.K X.mg X.base CX k f fd ps sp) (hr:Room k X.A) (hg:Gl X x) (hm:X.mg x=some (.ref f)) (hk:PySem.W.keepIn X.K (.ref f)=true) (hb:Binds X.K fd ps ds) (hd:Vals dvs ds) (hx:Passes CX X E)
    (ha:PA X (e::es) t) (hdb:(x == ("__debug__":Str))=false:=by decide) (he:starEach (e::es) X.env=(false,eval e X.env)::starEach es X.env:=by rfl) (hpl:(backTo pos (starEach es X.env)).any (·.1)=false:=by rfl) :
    PE X (.Call (.Name x p) (e::es) [] pos) (tCall sp dvs E t):=by
  intro pins s σ H Q I h
  refine wpAny_Call_Name_kw (ld_glob I hg hm ?_ hdb)
  refine PySem.W.callWith_K (h₀:=X.base) I.ok.mod.kin hk (thnG (ha pos pins s σ H _ I h) fun us s1 vs H1 I1 r q=>⟨I1.kIn,?_⟩) he hpl
  exact run_fn F hr hb hd hx I1 r q
theorem pe_meth0 {pl:Sem Bool} (he:PE X o ta) (c:Cls X.K C) (hm:Meth X.K C m f) (F:FnOk X.prog X.w X.K X.mg X.base CX k f fd ps sp) (hr:Room k X.A) (hb:Binds X.K fd ps ds) (hd:Vals dvs ds) (hx:Passes CX X E)
    (ht:eval (.Call (.Attribute o m apos) [] [] pos) X.env=(do
      let ov ← eval o X.env
      standAt apos.atName
      let (f,first) ← holding [ov] (getMethod ov m pl)
      callWith pos f first (backTo pos (starEach [] X.env)) (backToKw pos (keywordEach [] X.env))):=by rfl) :
    PE X (.Call (.Attribute o m apos) [] [] pos) (tMeth C m sp dvs E ta tNil):=by
  intro pins s σ H Q I h
  refine PySem.W.methodCall_KW (pl:=pl) (thnG (he pins s σ H _ I h) fun u s1 x H1 I1 rx hh_=>?_) ht
  obtain ⟨a,dx,fs,ex,ea,l,q⟩:=hh_
  subst ex
  obtain rfl:u=Value.ref a:=rx
  refine getmeth_ok I1 ea c hm l ?_
  exact PySem.W.callWith_K0 (first:=[.ref a]) I1.kIn hm.kp (run_fn (us:=[.ref a]) (vs:=[.ref a]) F hr hb hd hx I1 (.cons rfl .nil) q)
structure Mk (K:PySem.W.Frag) (C f:Addr):Prop where
  makes:PySem.W.makesIn K C=true
  init:PySem.W.findIn K (.ref C) "__init__"=some (some (.ref f))
  fn:PySem.W.isFn K (.ref f)=true
  kp:PySem.W.keepIn K (.ref C)=true
theorem run_make {pins:List (Addr×Obj)} {σ:St} {H:Hp} {s:Shared} {Q:VK} {us:List Value} {vs:List V} (M:Mk X.K C f) (F:FnOk X.prog X.w X.K X.mg X.base CX k f fd ps sp) (hr:Room (k + 1) X.A) (hb:Binds X.K fd ps ds) (hd:Vals dvs ds)
    (hx:Passes CX X E) (I:Inv X pins σ H s) (r:Vals vs us)
    (h:∀ x dx,H x=none→H dx=none→dx≠x→sp (.ref x::(vs++dvs)) (upd (upd H dx (.own x)) x (.ins C dx [])) (fun v H2=>v=.non∧Q (.ref x) H2) E) :
    wpAny (model X.prog X.w) X.A (call (.ref C) us) (EP X pins σ Q) X.xe s:=by
  have hq:=h (s.heap.objs.size + 1) s.heap.objs.size (I.hok.fresh (Nat.le_succ _)) (I.hok.fresh (Nat.le_refl _)) (Nat.ne_of_lt (Nat.lt_succ_self _))
  have I2:=Inv.made (C:=C) I
  have r2:Vals (V.ref (s.heap.objs.size + 1)::(vs++dvs)) (Value.ref (s.heap.objs.size + 1)::(us++ds)):=.cons rfl (r.append hd)
  have hl:(Value.ref (s.heap.objs.size + 1)::us++ds).length=ps.length:=by
    have e:=r2.length
    rw [F.len _ _ _ _ hq] at e
    exact e.symm
  refine wpAny_call (make_map (f:=f) I.kIn M.makes M.init (beq_iff_eq.mp M.fn) (codeAny_mono (F.run _ X.stack _ _ ⟨Value.ref (s.heap.objs.size + 1)::us,[]⟩ (Value.ref (s.heap.objs.size + 1)::(us++ds)) _ _ E (hr.make C us [])
    (I2.env0.make C us []) (hb _ (Value.ref (s.heap.objs.size + 1)::us) I2.kIn hl) r2 hq) fun r s' hq'=>?_))
  cases r with
  | error e=>exact hx pins σ _ _ e s' I2 hq'
  | ok fl=>
    cases fl with
    | ret u=>
      obtain ⟨v,H',I3,rv,ev,q3⟩:=I2.after hq'
      subst ev
      exact ⟨rv,⟨V.ref (s.heap.objs.size + 1),H',I3,rfl,q3⟩⟩
    | next=>exact False.elim hq'
    | brk=>exact False.elim hq'
    | cont=>exact False.elim hq'
theorem pe_make (M:Mk X.K C f) (F:FnOk X.prog X.w X.K X.mg X.base CX k f fd ps sp) (hr:Room (k + 1) X.A) (hg:Gl X x) (hm:X.mg x=some (.ref C)) (hb:Binds X.K fd ps ds) (hd:Vals dvs ds) (hx:Passes CX X E)
    (ha:PA X (e::es) t) (hdb:(x == ("__debug__":Str))=false:=by decide) (he:starEach (e::es) X.env=(false,eval e X.env)::starEach es X.env:=by rfl) (hpl:(backTo pos (starEach es X.env)).any (·.1)=false:=by rfl) :
    PE X (.Call (.Name x p) (e::es) [] pos) (tMake C sp dvs E t):=by
  intro pins s σ H Q I h
  refine wpAny_Call_Name_kw (ld_glob I hg hm ?_ hdb)
  refine PySem.W.callWith_K (h₀:=X.base) I.ok.mod.kin M.kp (thnG (ha pos pins s σ H _ I h) fun us s1 vs H1 I1 r q=>⟨I1.kIn,?_⟩) he hpl
  exact run_make M F hr hb hd hx I1 r q
end
section
variable {X:Cx} {CX:CXT} {k:Nat} {f C:Addr} {fd:FuncData} {ps ks:List Str} {sp:Sp} {E:XK} {x m:Str} {p pos apos kpos:Pos} {e o:Expr} {es:List Expr} {kws:List Keyword} {te ta:TE} {t tk:TA} {nm:Option Str}
variable {g:List Value→List Value→List Value} {gV:List V→List V→List V}
end
structure FnScope (N P:List Str) (sc:Scope):Prop where
  kind:sc.kind=.function
  co:sc.isCoroutine=false
  gen:sc.isGenerator=false
  nd:N.Nodup
  pre:N.take P.length=P
  par:∀ x∈P,sc.names.lookup x=some .local∨sc.names.lookup x=some .cell
  nofree:∀ y∈sc.names,y.2≠.free
theorem bindL_out {kindOf:Str→Option NameKind} {x:Str}:∀ {binds:List (Str×Value)} {m:Str→Option Value},(∀ v,(x,v)∉binds)→bindL kindOf binds m x=m x
  | [],_,_=>rfl
  | (n,v)::r,m,h=>by
    unfold bindL
    rw [bindL_out fun w hw=>h w (List.mem_cons_of_mem _ hw)]
    split
    · have:x≠n:=by rintro rfl; exact h v List.mem_cons_self
      simp [this]
    · rfl
theorem bindC_out {kindOf:Str→Option NameKind} {x:Str}:∀ {binds:List (Str×Value)} {m:Str→Option Value},(∀ v,(x,v)∉binds)→bindC kindOf binds m x=m x
  | [],_,_=>rfl
  | (n,v)::r,m,h=>by
    unfold bindC
    rw [bindC_out fun w hw=>h w (List.mem_cons_of_mem _ hw)]
    split
    · rfl
    · have:x≠n:=by rintro rfl; exact h v List.mem_cons_self
      simp [this]
theorem bindL_get {kindOf:Str→Option NameKind} {x:Str} {v:Value}:∀ {P:List Str} {vs:List Value} {i:Nat} {m:Str→Option Value},P.Nodup→P[i]?=some x→vs[i]?=some v→kindOf x=some .local→
    bindL kindOf (P.zip vs) m x=some v
  | [],_,_,_,_,h,_,_=>by simp at h
  | _::_,[],_,_,_,_,h,_=>by simp at h
  | p::P,w::vs,0,m,nd,h1,h2,hk=>by
    simp at h1 h2; subst h1; subst h2
    show bindL kindOf ((p,w)::P.zip vs) m p=_
    unfold bindL
    rw [bindL_out fun v hv=>(List.nodup_cons.mp nd).1 (List.of_mem_zip hv).1,if_pos hk]
    simp
  | p::P,w::vs,i + 1,m,nd,h1,h2,hk=>by
    show bindL kindOf ((p,w)::P.zip vs) m x=_
    unfold bindL
    exact bindL_get (i:=i) (List.nodup_cons.mp nd).2 (by simpa using h1) (by simpa using h2) hk
theorem bindC_get {kindOf:Str→Option NameKind} {x:Str} {v:Value}:∀ {P:List Str} {vs:List Value} {i:Nat} {m:Str→Option Value},P.Nodup→P[i]?=some x→vs[i]?=some v→kindOf x≠some .local→
    bindC kindOf (P.zip vs) m x=some v
  | [],_,_,_,_,h,_,_=>by simp at h
  | _::_,[],_,_,_,_,h,_=>by simp at h
  | p::P,w::vs,0,m,nd,h1,h2,hk=>by
    simp at h1 h2; subst h1; subst h2
    show bindC kindOf ((p,w)::P.zip vs) m p=_
    unfold bindC
    rw [bindC_out fun v hv=>(List.nodup_cons.mp nd).1 (List.of_mem_zip hv).1,if_neg hk]
    simp
  | p::P,w::vs,i + 1,m,nd,h1,h2,hk=>by
    show bindC kindOf ((p,w)::P.zip vs) m x=_
    unfold bindC
    exact bindC_get (i:=i) (List.nodup_cons.mp nd).2 (by simpa using h1) (by simpa using h2) hk
noncomputable def start (N:List Str) (vs:List V):St:=vs.map some++List.replicate (N.length - vs.length) none
noncomputable def cxOf (CX:CXT) (P:Program) (w:World) (K:PySem.W.Frag) (mg:Str→Option Value) (base:Heap) (N:List Str) (qual:Str) (scope:Scope) (f:Addr) (cd:Value) (A:Around) (outer:List Env) (s:Shared) (H:Hp) (E:XK):Cx where
  prog:=P
  w:=w
  K:=K
  mg:=mg
  base:=base
  A:=A.deeper (envOfC qual scope s.heap.objs.size f cd)
  N:=N
  s₀:=s
  H₀:=H
  env:=envOfC qual scope s.heap.objs.size f cd
  outer:=outer
  stack:=envOfC qual scope s.heap.objs.size f cd::outer
  ex:=[]
  calm:=true
  fn:=fun _=>true
  pn:=[]
  xe:=fun e s'=>wpAny (model P w) (A.deeper (envOfC qual scope s.heap.objs.size f cd)) (leaving (envOfC qual scope s.heap.objs.size f cd) e) (fun _ s''=>CX outer H s E e s'') (fun e' s''=>CX outer H s E e' s'') s'
theorem cell_has {sc:Scope} {n:Nat} {x:Str} (h:sc.names.lookup x=some .cell):∃ c,(cellsFrom n sc.names []).lookup x=some c:=by
  have q:=PySem.W.cellsFrom_some sc.names n [] (.inl h)
  exact Option.isSome_iff_exists.mp q
theorem inv_start {CX:CXT} {P:Program} {w:World} {K:PySem.W.Frag} {mg:Str→Option Value} {base:Heap} {N ps:List Str} {qual:Str} {scope:Scope} {f:Addr} {cd:Value} {A:Around} {outer:List Env} {s s1:Shared} {H:Hp} {E:XK} {us:List Value} {vs:List V}
    (S:FnScope N ps scope) (hd:A.handled=none) (e0:Env0 P w K mg base A outer s H) (hl:vs.length=ps.length) (r:Vals vs us)
    (x:InCallC s s.heap.objs.size (bindL (envOfC qual scope s.heap.objs.size f cd).kindOf (ps.zip us) fun _=>none) (cellsFrom (s.heap.objs.size + 1) scope.names []) (bindC (envOfC qual scope s.heap.objs.size f cd).kindOf (ps.zip us) fun _=>none) s1) :
    Inv (cxOf CX P w K mg base N qual scope f cd A outer s H E) [] (start N vs) H s1:=by
  have hpl:ps.length≤N.length:=by have:=congrArg List.length S.pre; rw [List.length_take] at this; omega
  obtain ⟨h1,tk,rfl,hk⟩:=x.done
  have noA:∀ b:Addr,b∉(cxOf CX P w K mg base N qual scope f cd A outer s H E).ex:=fun b z=>absurd (show b∈([]:List Addr) from z) (by simp)
  refine ⟨⟨e0.mod,S.kind,rfl,rfl,Nat.le_refl _,fun y z c h1 h2=>?_,fun y hy=>?_,fun y c _ h=>?_,fun _=>hd,Around.frames_deeper e0.frames,.inr ⟨rfl,rfl⟩,fun b z=>absurd z (noA b),e0.bs,e0.bsz,fun b _ _=>noA b,fun b z=>absurd z (noA b),e0.funs,e0.frf⟩,
    rfl,e0.bare,Un.kept hk,⟨_,x.toInCall.ns,fun i y v h1 h2 h3=>?_⟩,fun y c h=>⟨_,x.cell y c h⟩,e0.hok.fresh (Nat.le_refl _),fun y c h=>?_,fun p hp=>absurd (show p∈([]:List (Addr×Obj)) from hp) (by simp),e0.hok.kept hk,?_⟩
  · exact name_of_addr x.apart (PySem.mem_of_lookup h1) (PySem.mem_of_lookup h2)
  · have hy:scope.names.lookup y=some .cell∨scope.names.lookup y=some .free:=hy
    rcases hy with hy | hy
    · exact cell_has hy
    · exact absurd rfl (S.nofree _ (PySem.mem_of_lookup hy))
  · exact Nat.le_of_lt (x.above y c (PySem.mem_of_lookup h))
  · have hi:i < vs.length:=by
      unfold start at h2
      by_cases hi:i < vs.length
      · exact hi
      · rw [List.getElem?_append_right (by simpa using hi)] at h2
        rw [List.getElem?_replicate] at h2
        split at h2 <;> cases h2
    have ha:vs[i]?=some v:=by
      unfold start at h2
      rw [List.getElem?_append_left (by simpa using hi),List.getElem?_map] at h2
      cases e:vs[i]? with
      | none=>rw [e] at h2; cases h2
      | some a=>rw [e] at h2; cases h2; rfl
    obtain ⟨u,hu,rv⟩:=r.get ha
    have hp:ps[i]?=some y:=by
      rw [← S.pre,List.getElem?_take_of_lt (by omega)]; exact h1
    have ndP:ps.Nodup:=by rw [← S.pre]; exact S.nd.sublist (List.take_sublist _ _)
    refine ⟨u,rv,?_⟩
    rcases S.par y (List.mem_of_getElem? hp) with k | k
    · exact .inl ⟨k,bindL_get ndP hp hu k⟩
    · obtain ⟨c,e⟩:=cell_has (n:=s.heap.objs.size + 1) k
      refine .inr ⟨.inl k,c,e,?_⟩
      have q:=x.cell y c e
      rw [bindC_get ndP hp hu (by show scope.names.lookup y≠_; rw [k]; decide)] at q
      exact q
  · exact e0.hok.fresh (Nat.le_of_lt (x.above y c (PySem.mem_of_lookup h)))
  · unfold start
    show _=N.length
    rw [List.length_append,List.length_map,List.length_replicate]
    omega
theorem fn_of {CX:CXT} {P:Program} {w:World} {K:PySem.W.Frag} {mg:Str→Option Value} {base:Heap} {k:Nat} {f:Addr} {name qual:Str} {params:Arguments} {body:List Stmt} {scope:Scope} {dV kV doc pm cdv ct oc:Value} {an od:Option Addr}
    {osl:Array (Option Value)} {N ps:List Str} {sp:Sp} (lk:K.lookup f=some ⟨oc,od,.func (PySem.W.fnOf name qual params body scope dV kV doc pm an cdv ct),osl⟩) (hcd:PySem.W.codeIn K cdv qual=true) (S:FnScope N ps scope)
    (len:∀ vs H Q E,sp vs H Q E→vs.length=ps.length)
    (hbody:∀ (A:Around) (outer:List Env) (s:Shared) (H:Hp) (vs:List V) (Q:VK) (E:XK),Room k (A.deeper (envOfC qual scope s.heap.objs.size f cdv))→sp vs H Q E→
      ∃ t,PSs (cxOf CX P w K mg base N qual scope f cdv A outer s H E) body t∧t { nx:=fun _ H'=>Q .non H',rt:=Q } (start N vs) H) :
    FnOk P w K mg base CX (k + 1) f (PySem.W.fnOf name qual params body scope dV kV doc pm an cdv ct) ps sp:=by
  refine ⟨len,fun A outer s H args us vs Q E hr e0 hb r hsp=>?_⟩
  have hl:=len _ _ _ _ hsp
  have KX:K.In s.heap:=e0.mod.kin.keeps fun b o e=>(e0.bs b o e).1
  have lim:s.heap.NoLimit:=e0.mod.nolimit.keeps fun b o e=>(e0.bs b o e).1
  have hkind:∀ y∈ps.zip us,scope.names.lookup y.1=some .local∨(scope.names.lookup y.1=some .cell∧((cellsFrom (s.heap.objs.size + 1) scope.names []).lookup y.1).isSome=true):=fun ⟨n,v⟩ hy=>by
    rcases S.par n (List.of_mem_zip hy).1 with q | q
    · exact .inl q
    · exact .inr ⟨q,PySem.W.cellsFrom_some _ _ _ (.inl q)⟩
  refine codeAny_call_function hr.depth (KX _ _ lk) rfl S.co S.gen rfl (PySem.W.codeRec_of KX hcd) (hb _ _ _ _ ?_)
  refine wpAny_newFunctionEnv_cells S.kind hkind fun env he s1 x=>?_
  subst he
  refine ⟨lim.keeps x.toInCall.keep,codeAny_func ?_⟩
  obtain ⟨t,ht,hq⟩:=hbody A outer s H vs Q E (hr.deeper _) hsp
  have I:Inv (cxOf CX P w K mg base N qual scope f cdv A outer s H E) [] (start N vs) H s1:=inv_start S hr.hd e0 hl r x
  refine wpAny_mono (ht [] s1 (start N vs) H _ I hq) (fun fl s' hs=>?_) fun e s' hs=>hs
  have fin:∀ {σ':St} {H':Hp} {v:V} {u:Value},Inv (cxOf CX P w K mg base N qual scope f cdv A outer s H E) [] σ' H' s'→RelV v u→Q v H'→CE outer P w H s Q u s':=
    fun {σ' H' v u} J rv q=>⟨v,H',J.os,J.bare,J.base,J.hok,rv,q⟩
  cases fl with
  | ret u=>
    obtain ⟨v,σ',H',J,rv,q⟩:=hs
    exact fin J rv q
  | next=>
    obtain ⟨σ',H',J,q⟩:=hs
    exact fin (v:=V.non) (u:=Value.none) J rfl q
  | brk=>
    obtain ⟨_,_,_,q⟩:=hs
    exact False.elim q
  | cont=>
    obtain ⟨_,_,_,q⟩:=hs
    exact False.elim q
section
variable {X:Cx} {x:Str} {p pos:Pos} {e:Expr} {es:List Expr} {t:TA} {id T:String} {r:List V→Hp→VK→Prop}
noncomputable def tCB (r:List V→Hp→VK→Prop) (t:TA):TE:=fun σ H Q=>t σ H fun vs H1=>r vs H1 Q
theorem pe_callB (hc:CallR X (.builtin id) r) (hg:Gl X x) (hm:X.mg x=none) (hv:bootBuiltins x=some (.builtin id)) (ha:PA X (e::es) t) (hn:x ≠ "__name__":=by decide) (hdb:(x == ("__debug__":Str))=false:=by decide)
    (he:starEach (e::es) X.env=(false,eval e X.env)::starEach es X.env:=by rfl) (hpl:(backTo pos (starEach es X.env)).any (·.1)=false:=by rfl):PE X (.Call (.Name x p) (e::es) [] pos) (tCB r t):=by
  intro pins s σ H Q I h
  refine wpAny_Call_Name_kw (ld_blt I hg hm hv ?_ hn hdb)
  exact PyProof.Rows.callWith_builtin1 (thnG (ha pos pins s σ H _ I h) fun us s1 vs H1 I1 r1 q1=>hc pins s1 σ H1 vs us Q I1 r1 q1) he hpl
theorem pe_callTy (hc:CallR X (.type T) r) (hg:Gl X x) (hm:X.mg x=none) (hv:bootBuiltins x=some (.type T)) (ha:PA X (e::es) t) (hn:x ≠ "__name__":=by decide) (hdb:(x == ("__debug__":Str))=false:=by decide)
    (he:starEach (e::es) X.env=(false,eval e X.env)::starEach es X.env:=by rfl) (hpl:(backTo pos (starEach es X.env)).any (·.1)=false:=by rfl):PE X (.Call (.Name x p) (e::es) [] pos) (tCB r t):=by
  intro pins s σ H Q I h
  refine wpAny_Call_Name_kw (ld_blt I hg hm hv ?_ hn hdb)
  exact PyProof.Rows.callWith_type1 (thnG (ha pos pins s σ H _ I h) fun us s1 vs H1 I1 r1 q1=>hc pins s1 σ H1 vs us Q I1 r1 q1) he hpl
end
end L2
namespace HT
open PySem PyProof.Rows
theorem rcLt_int (A:Around) (s:Shared) (a:Int) (t:Tok) (c:Int) (u:Tok) (prog:Program) (w:World) (E:Value→Shared→Prop) (Q:Value→Shared→Prop) (h:Q (.bool (decide (a < c))) s) :
    wpAny (model prog w) A (richCompare .Lt (.int a t) (.int c u)) Q E s:=
  (PyProof.Rows.lt_int h:wpAny (model prog w) A (compareOp .Lt (.int a t) (.int c u)) Q E s)
section
open PySem.SeqAt
open PySem.AutoSeq1 (wpAny_loadPart')
open PySem.MeetsSeq PySem.MeetsSeq2 PySem.MeetsSeq3
end
section
variable {prog:Program} {w:World} {A:Around} {E:Value→Shared→Prop} {s:Shared}
theorem cat_tup {t b:Addr} {vs ws:List Value} {Q:Value→Shared→Prop} (ht:IsTup s.heap t vs.toArray) (hb:IsTup s.heap b ws.toArray) (hv:vs≠[])
    (h1:ws=[]→Q (.ref t) s) (h2:ws≠[]→Q (.ref s.heap.objs.size) { s with heap:=s.heap.push { cls:=.type "tuple",data:=.seq (vs++ws).toArray } })
    (hsz:vs.length + ws.length≤sizeLine):wpAny (model prog w) A (binaryOp .Add (.ref t) (.ref b)) Q E s:=by
  obtain ⟨⟨cls,dd,data,sl⟩,ho,hc,n,hd⟩:=id ht
  obtain ⟨⟨cls2,dd2,data2,sl2⟩,ho2,hc2,n2,hd2⟩:=id hb
  simp only at hc hd hc2 hd2
  subst hc hd hc2 hd2
  have e:vs.toArray++ws.toArray=(vs++ws).toArray:=by simp
  by_cases hw:ws=[]
  · exact concat_meets ⟨_,ho,rfl⟩ ⟨_,ho2,rfl⟩ noFill_tuple_add seq_tuple_add PySem.F.slot_tuple_add PySem.F.entry_tuple_add (PySem.F.args_tuple_add_2 _ _)
      (tuple_addW1 t b vs.toArray ws.toArray n n2 dd dd2 sl sl2 (by simpa using hv) (by simp [hw])) ⟨ho,ho2,h1 hw⟩
  · refine concat_meets ⟨_,ho,rfl⟩ ⟨_,ho2,rfl⟩ noFill_tuple_add seq_tuple_add PySem.F.slot_tuple_add PySem.F.entry_tuple_add (PySem.F.args_tuple_add_2 _ _)
      (tuple_addW2 t b vs.toArray ws.toArray n n2 dd dd2 sl sl2 (by simpa using hv) (by simpa using hw) (by rw [List.size_toArray,List.size_toArray]; exact hsz)) ⟨ho,ho2,?_⟩
    rw [e]
    exact h2 hw
noncomputable def sIx (n d:Nat):Option Int→Nat
  | none=>d
  | some v=>if v < 0 then (v + (n:Int)).toNat else min v.toNat n
end
end HT
namespace L2
open PySem PySem.Spec PyProof.Rows
noncomputable abbrev TO:=St→Hp→(Option Int→Hp→Prop)→Prop
noncomputable def PO (X:Cx) (e:Option Expr) (t:TO):Prop:=
  ∀ (pins:List (Addr×Obj)) (s:Shared) (σ:St) (H:Hp) (Q:Option Int→Hp→Prop),Inv X pins σ H s→t σ H Q→
    wpAny (model X.prog X.w) X.A (evalPart e X.env) (fun u s'=>∃ o H',Inv X pins σ H' s'∧IsPart u o∧Q o H') X.xe s
noncomputable def tNoPart:TO:=fun _ H Q=>Q none H
noncomputable def tPart (t:TE):TO:=fun σ H Q=>t σ H fun x H1=>∃ i,x=.int i∧Q (some i) H1
section
variable {X:Cx} {e:Expr} {te:TE} {lo hi:Option Expr} {tl th:TO} {pos p2:Pos}
theorem po_none:PO X none tNoPart:=by
  intro pins s σ H Q I h
  rw [evalPart_none]
  exact wpAny_pure ⟨none,H,I,.none,h⟩
theorem po_some (h:PE X e te):PO X (some e) (tPart te):=by
  intro pins s σ H Q I hw
  rw [evalPart_some]
  refine thnG (h pins s σ H _ I hw) fun u s1 x H1 I1 r1 q1=>?_
  obtain ⟨i,rfl,q⟩:=q1
  obtain ⟨t,rfl⟩:=r1
  exact ⟨some i,H1,I1,.int i t,q⟩
noncomputable def SlR (X:Cx) (r:V→Option Int→Option Int→Hp→VK→Prop):Prop:=
  ∀ (pins:List (Addr×Obj)) (s:Shared) (σ:St) (H:Hp) (x:V) (v vl vu:Value) (lo hi:Option Int) (sl:Addr) (Q:VK),Inv X pins σ H s→RelV x v→s.heap.IsSliceOf sl vl vu .none→IsPart vl lo→IsPart vu hi→r x lo hi H Q→
    ∃ T id,typeLookup (.type T) "__getitem__"=pure (some (.builtin id))∧s.TypeIs v T∧wpAny (model X.prog X.w) X.A (getItem v (.ref sl)) (EP X pins σ Q) X.xe s
noncomputable def tSl (r:V→Option Int→Option Int→Hp→VK→Prop) (te:TE) (tl th:TO):TE:=fun σ H Q=>te σ H fun x H1=>tl σ H1 fun l H2=>th σ H2 fun u H3=>r x l u H3 Q
theorem pe_slice {r:V→Option Int→Option Int→Hp→VK→Prop} (hr:SlR X r) (he:PE X e te) (hl:PO X lo tl) (hu:PO X hi th):PE X (.Subscript e (.Slice lo hi none p2) pos) (tSl r te tl th):=by
  intro pins s σ H Q I h
  refine Subscript_ (thnG (he pins s σ H _ I h) fun v s1 x H1 I1 r1 q1=>?_)
  refine wpAny_Slice (thnG (hl pins s1 σ H1 _ I1 q1) fun vl s2 l H2 I2 pl q2=>thnG (hu pins s2 σ H2 _ I2 q2) fun vu s3 u H3 I3 pu q3=>?_)
  rw [evalPart_none]
  refine wpAny_pure ?_
  have I4:Inv X pins σ H3 { s3 with heap:=s3.heap.push { cls:=.type "slice",data:=.fields #[vl,vu,.none] } }:=I3.kept (t':=s3.toks) fun b ob q=>Heap.get?_push_of_some _ q
  obtain ⟨T,id,hT,ht,hg⟩:=hr pins { s3 with heap:=s3.heap.push { cls:=.type "slice",data:=.fields #[vl,vu,.none] } } σ H3 x v vl vu l u s3.heap.objs.size Q I4 r1 (Heap.IsSliceOf.new ..) pl pu q3
  show wpAny (model X.prog X.w) X.A (subscriptTail e (.Slice lo hi none p2) v (.ref s3.heap.objs.size)) (EP X pins σ Q) X.xe { s3 with heap:=s3.heap.push { cls:=.type "slice",data:=.fields #[vl,vu,.none] } }
  exact tail_any (ops:=[.ref s3.heap.objs.size,v]) ht hT hg (by with_unfolding_all rfl)
noncomputable def cutV (xs:List V) (lo hi:Option Int):List V:=(xs.drop (HT.sIx xs.length 0 lo)).take (HT.sIx xs.length xs.length hi - HT.sIx xs.length 0 lo)
theorem cutV_length (xs:List V) (lo hi:Option Int):(cutV xs lo hi).length≤xs.length:=by
  unfold cutV
  rw [List.length_take,List.length_drop]
  omega
noncomputable def rCatT (K:PySem.W.Frag):R2:=fun x y H Q=>∃ a b xs ys,x=.ref a∧y=.ref b∧SqT K H a xs∧SqT K H b ys∧xs≠[]∧xs.length + ys.length≤sizeLine ∧
  (ys=[]→Q (.ref a) H)∧(ys≠[]→∀ p,H p=none→Q (.ref p) (upd H p (.tup (xs++ys))))
theorem Vals.nil_iff {xs:List V} {us:List Value} (r:Vals xs us):us=[]↔xs=[]:=by
  cases r with
  | nil=>simp
  | cons _ _=>simp
theorem op_catT:OpR X (binaryOp .Add) (rCatT X.K):=by
  intro pins s σ H x y v u Q I rx ry h
  obtain ⟨a,b,xs,ys,rfl,rfl,ha,hb,hx,hz,q1,q2⟩:=h
  cases rx
  cases ry
  obtain ⟨its,r1,p1,_⟩:=I.tuple ha
  obtain ⟨its2,r2,p2,_⟩:=I.tuple hb
  refine HT.cat_tup p1 p2 (fun z=>hx (r1.nil_iff.mp z)) (fun z=>⟨.ref a,H,I,rfl,q1 (r2.nil_iff.mp z)⟩) (fun z=>?_) (by rw [← r1.length,← r2.length]; exact hz)
  refine ⟨.ref s.heap.objs.size,_,I.laid (t':=s.toks) (o:=.tup (xs++ys)) (fun b ob q=>Heap.get?_push_of_some _ q) (Nat.le_refl _) ?_,rfl,q2 (fun w=>z (r2.nil_iff.mpr w)) _ (I.hok.fresh (Nat.le_refl _))⟩
  exact ⟨by rw [List.length_append]; exact hz,_,r1.append r2,IsTup.new _ _,NoD.new _ _⟩
end
noncomputable def ixN (n:Nat) (i:Int):Option Nat:=if 0≤i then (if i < n then some i.toNat else none) else if -(n:Int)≤i then some (i + n).toNat else none
noncomputable def atI {α:Type} (xs:List α) (i:Int):Option α:=(ixN xs.length i).bind fun j=>xs[j]?
theorem ixN_seq {n:Nat} {i:Int} {j:Nat} (h:ixN n i=some j):seqIndex? i n=some j∧j < n∧-(n:Int)≤i∧i < n:=by
  unfold ixN at h
  by_cases h0:0≤i
  · rw [if_pos h0] at h
    by_cases h1:i < n
    · rw [if_pos h1] at h
      have e:i.toNat=j:=Option.some.inj h
      exact ⟨by rw [seqIndex_of h0 h1,e],by omega,by omega,h1⟩
    · rw [if_neg h1] at h; cases h
  · rw [if_neg h0] at h
    by_cases h1:-(n:Int)≤i
    · rw [if_pos h1] at h
      have e:(i + n).toNat=j:=Option.some.inj h
      exact ⟨by rw [seqIndex_neg (by omega) h1,e],by omega,h1,by omega⟩
    · rw [if_neg h1] at h; cases h
theorem atI_get {α:Type} {xs:List α} {i:Int} {v:α} (h:atI xs i=some v):∃ j,seqIndex? i xs.length=some j∧xs[j]?=some v∧j < xs.length∧-(xs.length:Int)≤i∧i < xs.length:=by
  unfold atI at h
  cases e:ixN xs.length i with
  | none=>rw [e] at h; cases h
  | some j=>
    rw [e] at h
    obtain ⟨h1,h2,h3,h4⟩:=ixN_seq e
    exact ⟨j,h1,h,h2,h3,h4⟩
theorem atI_nat {α:Type} {xs:List α} {j:Nat} {v:α} (h:xs[j]?=some v):atI xs (j:Int)=some v:=by
  have hj:j < xs.length:=(List.getElem?_eq_some_iff.mp h).1
  have e:ixN xs.length (j:Int)=some j:=by
    unfold ixN
    rw [if_pos (by omega),if_pos (by omega)]; simp
  unfold atI; rw [e]; exact h
noncomputable def PlainIx (b:Expr):Prop:=∀ o i,subscripted b false o i=operate [o,i] (getItem o i)
noncomputable def IxR (X:Cx) (r:R2):Prop:=
  ∀ (value slice:Expr) (pins:List (Addr×Obj)) (s:Shared) (σ:St) (H:Hp) (x y:V) (v u:Value) (Q:VK),Inv X pins σ H s→RelV x v→RelV y u→r x y H Q→
    subscripted slice false v u=operate [v,u] (getItem v u)→wpAny (model X.prog X.w) X.A (subscriptTail value slice v u) (EP X pins σ Q) X.xe s
noncomputable def MtR (X:Cx) (id:String) (r:V→List V→Hp→VK→Prop):Prop:=
  ∀ (pins:List (Addr×Obj)) (s:Shared) (σ:St) (H:Hp) (x:V) (xs:List V) (v:Value) (us:List Value) (Q:VK),Inv X pins σ H s→RelV x v→Vals xs us→r x xs H Q→
    wpAny (model X.prog X.w) X.A (call (.builtin id) (v::us)) (EP X pins σ Q) X.xe s
section
variable {X:Cx} {a b:Expr} {ta tb:TE} {pos:Pos}
theorem IxR.or {r r':R2} (h:IxR X r) (h':IxR X r'):IxR X (fun x y H Q=>r x y H Q∨r' x y H Q):=by
  intro value slice pins s σ H x y v u Q I rx ry q hs
  rcases q with q | q
  · exact h value slice pins s σ H x y v u Q I rx ry q hs
  · exact h' value slice pins s σ H x y v u Q I rx ry q hs
theorem pe_ix {r:R2} (hr:IxR X r) (ha:PE X a ta) (hb:PE X b tb) (hs:PlainIx b):PE X (.Subscript a b pos) (tOp r ta tb):=by
  intro pins s σ H Q I h
  exact Subscript_ (binT ha hb I h fun v u s2 x y H2 I2 rx ry q=>hr a b pins s2 σ H2 x y v u Q I2 rx ry q (hs _ _))
noncomputable def rIxL (K:PySem.W.Frag):R2:=fun x y H Q=>∃ p xs i v,x=.ref p∧y=.int i∧SqL K H p xs∧atI xs i=some v∧Q v H
noncomputable def rIxT (K:PySem.W.Frag):R2:=fun x y H Q=>∃ p xs i v,x=.ref p∧y=.int i∧SqT K H p xs∧atI xs i=some v∧Q v H
noncomputable def rIxS:R2:=fun x y H Q=>∃ z i c,x=.str z∧y=.int i∧z.length≤sizeLine∧atI z.cps.toList i=some c∧Q (.str ⟨#[c]⟩) H
theorem ix_list:IxR X (rIxL X.K):=by
  intro value slice pins s σ H x y v u Q I rx ry h hs
  obtain ⟨p,xs,i,z,rfl,rfl,hq,he,q⟩:=h
  cases rx
  obtain ⟨t,rfl⟩:=ry
  obtain ⟨its,r,pl,hz⟩:=I.list hq
  obtain ⟨j,h1,h2,h3,h4,h5⟩:=atI_get he
  obtain ⟨w,ew,rw'⟩:=r.get h2
  have hl:=r.length
  have hn:=line63
  have fin:EP X pins σ Q w s:=⟨z,H,I,rw',q⟩
  by_cases h0:0≤i
  · have hj:i.toNat=j:=by
      rw [seqIndex_of h0 h5] at h1
      exact Option.some.inj h1
    exact item_listR pl.isList h0 (by omega) (by rw [hj]; simpa using ew) fin hs
  · have hj:(i + (its.toArray.size:Int)).toNat=j:=by
      rw [seqIndex_neg (by omega) h4] at h1
      rw [List.size_toArray,← hl]
      exact Option.some.inj h1
    exact subscriptTail_builtinR (x:=w) pl.isList.typeIs slot_list_getitem.lookup
      (wpAny_getItem_list_neg (Q:=fun r s'=>r=w∧EP X pins σ Q r s') pl.isList (by omega) (by rw [List.size_toArray] <;> omega) (by omega) (by rw [hj]; simpa using ew) ⟨rfl,fin⟩) hs
theorem ix_tup:IxR X (rIxT X.K):=by
  intro value slice pins s σ H x y v u Q I rx ry h hs
  obtain ⟨p,xs,i,z,rfl,rfl,hq,he,q⟩:=h
  cases rx
  obtain ⟨t,rfl⟩:=ry
  obtain ⟨its,r,pl,hz⟩:=I.tuple hq
  obtain ⟨j,h1,h2,h3,h4,h5⟩:=atI_get he
  obtain ⟨w,ew,rw'⟩:=r.get h2
  have hl:=r.length
  have hn:=line63
  have fin:EP X pins σ Q w s:=⟨z,H,I,rw',q⟩
  exact subscriptTail_builtinR (x:=w) pl.typeIs slot_tuple_getitem.lookup
    (getItem_tuple (j:=j) (Q:=fun r s'=>r=w∧EP X pins σ Q r s') pl (by omega) (by omega) (by rw [List.size_toArray,← hl]; exact h1) (by simpa using ew) ⟨rfl,fin⟩) hs
theorem ix_str:IxR X rIxS:=by
  intro value slice pins s σ H x y v u Q I rx ry h hs
  obtain ⟨z,i,c,rfl,rfl,hz,he,q⟩:=h
  obtain ⟨t,rfl⟩:=rx
  obtain ⟨t',rfl⟩:=ry
  obtain ⟨j,h1,h2,h3,h4,h5⟩:=atI_get he
  have hl:z.cps.toList.length=z.length:=by simp [Str.length]
  rw [hl] at h1 h4 h5
  have hn:=line63
  exact tail_any (typeIs_str s z t) slot_str_getitem.lookup (getItem_str (c:=c) (by
    have e1:decide (i < -(2 ^ 63:Int))=false:=decide_eq_false (by omega)
    have e2:decide (i ≥ 2 ^ 63)=false:=decide_eq_false (by omega)
    rw [e1,e2,Bool.or_false]) (by rw [h1]; simpa using h2) ⟨.str ⟨#[c]⟩,H,I.tok _,⟨_,rfl⟩,q⟩) hs
noncomputable def rIx (K:PySem.W.Frag):R2:=fun x y H Q=>rIxL K x y H Q∨rIxT K x y H Q∨rIxS x y H Q
theorem ix_seq:IxR X (rIx X.K):=ix_list.or (ix_tup.or ix_str)
theorem mapSeq_set (its:List Value) (n j:Nat) (u:Value):Obj.mapSeq (·.setIfInBounds j u) { cls:=.type "list",data:=.seq its.toArray n }={ cls:=.type "list",data:=.seq (its.set j u).toArray n }:=by
  simp [Obj.mapSeq]
theorem Inv.lst {pins:List (Addr×Obj)} {σ:St} {H:Hp} {s:Shared} {p:Addr} {xs:List V} (I:Inv X pins σ H s) (h:H p=some (.lst xs)) :
    ∃ (its:List Value) (n:Nat),Vals xs its∧s.heap.get? p=some { cls:=.type "list",data:=.seq its.toArray n }∧xs.length≤sizeLine:=by
  obtain ⟨z,its,n,r,e⟩:=I.hok p _ h
  exact ⟨its,n,r,e,z⟩
theorem Inv.lstUpd {pins:List (Addr×Obj)} {σ:St} {H:Hp} {s:Shared} {p:Addr} {xs ys:List V} {its its':List Value} {n n':Nat} {f:Obj→Obj} (I:Inv X pins σ H s) (h:H p=some (.lst xs))
    (ho:s.heap.get? p=some { cls:=.type "list",data:=.seq its.toArray n }) (hf:f { cls:=.type "list",data:=.seq its.toArray n }={ cls:=.type "list",data:=.seq its'.toArray n' }) (r:Vals ys its') (hz:ys.length≤sizeLine) (t:Nat) :
    Inv X pins σ (upd H p (.lst ys)) { s with heap:=s.heap.update p f,toks:=t }:=by
  have e:(s.heap.update p f).get? p=some { cls:=.type "list",data:=.seq its'.toArray n' }:=by
    rw [Heap.get?_update_self f ho (by rw [hf] <;> rfl),hf]
  refine I.write (x:=p) (e:=p) (by rw [h]; trivial) (.inl rfl) (fun b u hb q=>(Heap.get?_update_other _ _ (Ne.symm hb)).trans q) ⟨_,e⟩ ?_
  exact ⟨hz,its',n',r,e⟩
noncomputable def rSetL:V→V→V→Hp→(Hp→Prop)→Prop:=fun o i v H Q=>∃ p xs k j,o=.ref p∧i=.int k∧H p=some (.lst xs)∧ixN xs.length k=some j∧Q (upd H p (.lst (xs.set j v)))
theorem set_list:PSet X rSetL:=by
  intro pins s σ H o i v ov iv u Q I ro ri rv h
  obtain ⟨p,xs,k,j,rfl,rfl,hp,hj,q⟩:=h
  cases ro
  obtain ⟨t,rfl⟩:=ri
  obtain ⟨its,n,r,ho,hz⟩:=I.lst hp
  obtain ⟨h1,h2,h3,h4⟩:=ixN_seq hj
  have hl:=r.length
  have hn:=line63
  have I':Inv X pins σ (upd H p (.lst (xs.set j v))) { s with heap:=s.heap.update p (Obj.mapSeq (·.setIfInBounds j u)) }:=
    I.lstUpd hp ho (mapSeq_set its n j u) (r.set rv j) (by rw [List.length_set]; exact hz) s.toks
  by_cases h0:0≤k
  · have hk:k.toNat=j:=by
      rw [seqIndex_of h0 h4] at h1
      exact Option.some.inj h1
    exact PySem.W.ki_setAt ho h0 (by omega) (by rw [List.size_toArray,← hl]; exact h4) (by rw [hk]; exact ⟨_,I',q⟩)
  · have hk:(k + (its.toArray.size:Int)).toNat=j:=by
      rw [seqIndex_neg (by omega) h3] at h1
      rw [List.size_toArray,← hl]
      exact Option.some.inj h1
    exact PySem.W.ki_setBack ho (by omega) (by rw [List.size_toArray,← hl]; exact h3) (by omega) (by rw [hk]; exact ⟨_,I',q⟩)
theorem slice_bounds (lo hi:Option Int) (n:Nat):(sliceBounds lo hi none n).1=((HT.sIx n 0 lo:Nat):Int)∧(sliceBounds lo hi none n).2.1=((HT.sIx n n hi:Nat):Int)∧(sliceBounds lo hi none n).2.2=1:=by
  refine ⟨?_,?_,rfl⟩
  · cases lo with
    | none=>simp [sliceBounds,HT.sIx]
    | some i=>
      simp only [sliceBounds,HT.sIx,Option.getD_none,show (1:Int) > 0 by decide,if_true]
      by_cases h:i < 0
      · simp only [h,if_true] <;> omega
      · simp only [h,if_false] <;> omega
  · cases hi with
    | none=>simp [sliceBounds,HT.sIx]
    | some i=>
      simp only [sliceBounds,HT.sIx,Option.getD_none,show (1:Int) > 0 by decide,if_true]
      by_cases h:i < 0
      · simp only [h,if_true] <;> omega
      · simp only [h,if_false] <;> omega
theorem slicePick_cut (its:List Value) (lo hi:Option Int):slicePick its.toArray lo hi none=((its.drop (HT.sIx its.length 0 lo)).take (HT.sIx its.length its.length hi - HT.sIx its.length 0 lo)).toArray:=by
  obtain ⟨h1,h2,h3⟩:=slice_bounds lo hi its.toArray.size
  unfold slicePick
  rw [h1,h2,h3]
  simp only [sliceRange_one,pick_run,List.size_toArray] <;> rfl
noncomputable def rSlL (K:PySem.W.Frag):V→Option Int→Option Int→Hp→VK→Prop:=fun x lo hi H Q=>∃ a xs,x=.ref a∧SqL K H a xs∧∀ p,H p=none→Q (.ref p) (upd H p (.lst (cutV xs lo hi)))
theorem sl_list:SlR X (rSlL X.K):=by
  intro pins s σ H x v vl vu lo hi sl Q I rx hs pl pu h
  obtain ⟨a,xs,rfl,hx,q⟩:=h
  cases rx
  obtain ⟨its,r,ht,hz⟩:=I.list hx
  have hlen:=r.length
  refine ⟨"list",_,slot_list_getitem.lookup,ht.isList.typeIs,?_⟩
  refine wpAny_getItem_list_slice ht.isList hs pl pu .none (by simp) ?_ (by rw [List.size_toArray] <;> omega)
  rw [slicePick_cut,← hlen]
  refine ⟨.ref s.heap.objs.size,_,I.laid (t':=s.toks) (o:=.lst (cutV xs lo hi)) (fun b ob q=>Heap.get?_push_of_some _ q) (Nat.le_refl _) ?_,rfl,q _ (I.hok.fresh (Nat.le_refl _))⟩
  exact ⟨Nat.le_trans (cutV_length xs lo hi) hz,_,0,(r.drop (HT.sIx xs.length 0 lo)).take (HT.sIx xs.length xs.length hi - HT.sIx xs.length 0 lo),Heap.get?_push_size _ rfl⟩
theorem call_len_seq:CallR X (.builtin "len") (fun xs H Q=>∃ p ys,xs=[.ref p]∧(SqL X.K H p ys∨SqT X.K H p ys)∧Q (.int ys.length) H):=by
  intro pins s σ H xs us Q I r h
  obtain ⟨p,ys,rfl,hq,q⟩:=h
  obtain ⟨u,rfl,rx⟩:=vals1 r
  cases rx
  have hn:=line63
  rcases hq with hq | hq
  · obtain ⟨its,r',pl,hz⟩:=I.list hq
    have hlen:=r'.length
    exact Calls.call_len_list pl.isList (by simp only [List.size_toArray] <;> omega) ⟨.int ys.length,H,I.tok _,⟨s.toks + 1,by rw [List.size_toArray,hlen]⟩,q⟩
  · obtain ⟨its,r',pl,hz⟩:=I.tuple hq
    have hlen:=r'.length
    exact len_tuple pl (by simp only [List.size_toArray] <;> omega) ⟨.int ys.length,H,I.tok _,⟨s.toks + 1,by rw [List.size_toArray,hlen]⟩,q⟩
theorem call_len_str:CallR X (.builtin "len") (fun xs H Q=>∃ z,xs=[.str z]∧z.length≤sizeLine∧Q (.int z.length) H):=by
  intro pins s σ H xs us Q I r h
  obtain ⟨z,rfl,hz,q⟩:=h
  obtain ⟨u,rfl,t,rfl⟩:=vals1 r
  have hn:=line63
  exact len_str (by omega) ⟨.int z.length,H,I.tok _,⟨_,rfl⟩,q⟩
theorem CallR.or {f:Value} {r r':List V→Hp→VK→Prop} (h:CallR X f r) (h':CallR X f r'):CallR X f (fun xs H Q=>r xs H Q∨r' xs H Q):=by
  intro pins s σ H xs us Q I rs q
  rcases q with q | q
  · exact h pins s σ H xs us Q I rs q
  · exact h' pins s σ H xs us Q I rs q
theorem call_list_of:CallR X (.type "list") (fun xs H Q=>∃ p ys,xs=[.ref p]∧(SqL X.K H p ys∨SqT X.K H p ys)∧∀ l,H l=none→Q (.ref l) (upd H l (.lst ys))):=by
  intro pins s σ H xs us Q I r h
  obtain ⟨p,ys,rfl,hq,q⟩:=h
  obtain ⟨u,rfl,rx⟩:=vals1 r
  cases rx
  have fin:∀ (its:List Value),Vals ys its→ys.length≤sizeLine→∀ (h':Heap) (c':Nat),(∀ b o',s.heap.get? b=some o'→h'.get? b=some o')→
      h'.get? s.heap.objs.size=some { cls:=.type "list",dict:=none,data:=.seq its.toArray c',slots:=#[] }→EP X pins σ Q (.ref s.heap.objs.size) { s with heap:=h' }:=fun its r' hz h' c' kp e=>
    ⟨.ref s.heap.objs.size,_,I.laid (t':=s.toks) kp (Nat.le_refl _) (show ObjOk X.prog X.w _ h' _ (.lst ys) from ⟨hz,its,c',r',e⟩),rfl,q _ (I.hok.fresh (Nat.le_refl _))⟩
  rcases hq with hq | hq
  · obtain ⟨its,r',pl,hz⟩:=I.list hq
    have hlen:=r'.length
    obtain ⟨o,ho,hc,n,hd⟩:=pl.isList
    exact call_list_seq p (.inl rfl) ho hc hd (fun h' c' kp e=>fin its r' hz h' c' kp e) (by simp only [List.size_toArray] <;> omega)
  · obtain ⟨its,r',pl,hz⟩:=I.tuple hq
    have hlen:=r'.length
    obtain ⟨o,ho,hc,n,hd⟩:=pl
    exact call_list_seq p (.inr rfl) ho hc hd (fun h' c' kp e=>fin its r' hz h' c' kp e) (by simp only [List.size_toArray] <;> omega)
theorem call_tuple_of:CallR X (.type "tuple") (fun xs H Q=>∃ p ys,xs=[.ref p]∧((SqL X.K H p ys∧∀ l,H l=none→Q (.ref l) (upd H l (.tup ys)))∨(SqT X.K H p ys∧Q (.ref p) H))):=by
  intro pins s σ H xs us Q I r h
  obtain ⟨p,ys,rfl,h⟩:=h
  obtain ⟨u,rfl,rx⟩:=vals1 r
  cases rx
  rcases h with ⟨hq,q⟩ | ⟨hq,q⟩
  · obtain ⟨its,r',pl,hz⟩:=I.list hq
    have hlen:=r'.length
    refine call_tuple_list pl.isList (fun h' kp=>?_) (by simp only [List.size_toArray] <;> omega)
    have I1:Inv X pins σ H { s with heap:=h' }:=I.kept (t':=s.toks) kp
    have I2:Inv X pins σ (upd H h'.objs.size (.tup ys)) { s with heap:=h'.push { cls:=.type "tuple",data:=.seq its.toArray } }:=
      I1.laid (t':=s.toks) (fun b o e=>Heap.get?_push_of_some _ e) (Nat.le_refl _) (show ObjOk X.prog X.w _ _ _ (.tup ys) from ⟨hz,its,r',IsTup.new _ _,NoD.new _ _⟩)
    exact ⟨.ref h'.objs.size,_,I2,rfl,q _ (I1.hok.fresh (Nat.le_refl _))⟩
  · obtain ⟨its,r',pl,hz⟩:=I.tuple hq
    exact call_tuple_same pl ⟨.ref p,H,I,rfl,q⟩
noncomputable def tyV (K:PySem.W.Frag) (T:String) (x:V) (H:Hp):Prop:=match x with
  | .str _=>T = "str"
  | .int _=>T = "int"
  | .ref p=>(T = "list"∧∃ xs,SqL K H p xs)∨(T = "tuple"∧∃ o,K.lookup p=some o∧o.cls=.type "tuple"∧o.dict=none) ∨
      (T = "dict"∧((∃ kvs,H p=some (.dK kvs))∨∃ kvs,H p=some (.dT kvs)))∨(T = "set"∧∃ S n,H p=some (.set S n))
  | _=>False
theorem tyV_is {pins:List (Addr×Obj)} {σ:St} {H:Hp} {s:Shared} {T:String} {x:V} {v:Value} (I:Inv X pins σ H s) (r:RelV x v) (ty:tyV X.K T x H) :
    s.TypeIs v T∧∀ a,v=.ref a→∃ ob,s.heap.get? a=some ob∧ob.dict=none:=by
  cases x with
  | str z=>
    obtain ⟨t,rfl⟩:=r
    cases (show T = "str" from ty)
    exact ⟨typeIs_str s z t,fun _ e=>nomatch e⟩
  | int i=>
    obtain ⟨t,rfl⟩:=r
    cases (show T = "int" from ty)
    exact ⟨typeIs_int s i t,fun _ e=>nomatch e⟩
  | ref p=>
    cases r
    rcases ty with ⟨rfl,xs,hq⟩ | ⟨rfl,o,hk,hc,hd⟩ | ⟨rfl,hk⟩ | ⟨rfl,S,n,hk⟩
    · obtain ⟨its,_,pl,_⟩:=I.list hq
      refine ⟨pl.isList.typeIs,fun a e=>?_⟩
      cases e
      obtain ⟨o,n,e,c,hd,_⟩:=pl
      exact ⟨o,e,hd⟩
    · refine ⟨⟨o,I.kIn p o hk,hc⟩,fun a e=>?_⟩
      cases e
      exact ⟨o,I.kIn _ o hk,hd⟩
    · have z:∃ o,s.heap.get? p=some o∧o.ExactDict:=by
        rcases hk with ⟨kvs,hk⟩ | ⟨kvs,hk⟩
        · obtain ⟨_,_,_,_,o,_,_,e,ex,_⟩:=I.hok p _ hk
          exact ⟨o,e,ex⟩
        · obtain ⟨_,_,_,_,o,_,_,e,ex,_⟩:=I.hok p _ hk
          exact ⟨o,e,ex⟩
      obtain ⟨o,e,ex⟩:=z
      refine ⟨⟨o,e,ex.1⟩,fun a e2=>?_⟩
      cases e2
      exact ⟨o,e,ex.2.1⟩
    · obtain ⟨o,_,_,_,e,ex,_⟩:=I.hok p _ hk
      refine ⟨⟨o,e,ex.1⟩,fun a e2=>?_⟩
      cases e2
      exact ⟨o,e,ex.2.1⟩
  | _=>exact False.elim ty
noncomputable def tBM (K:PySem.W.Frag) (T:String) (r:V→List V→Hp→VK→Prop) (to:TE) (t:TA):TE:=fun σ H Q=>to σ H fun x H1=>tyV K T x H1∧t σ H1 fun xs H2=>r x xs H2 Q
variable {o e:Expr} {es:List Expr} {to:TE} {t:TA} {name:Str} {apos cpos:Pos} {T id:String} {r:V→List V→Hp→VK→Prop}
theorem pe_bm (pa:PlainAttrs T) (slot:Slot T name id) (hty:typeOf (.builtin id)=pure (.type "method_descriptor")) (hm:MtR X id r) (ho:PE X o to) (ha:PA X (e::es) t)
    (hbase:attributeBase o name X.env (eval o X.env)=eval o X.env:=by rfl)
    (hfew:((backTo cpos (starEach (e::es) X.env)).all (fun x=>!x.1)&&(backToKw cpos (keywordEach [] X.env)).all (fun x=>x.1.isSome)
      && decide ((e::es).length + ([]:List Keyword).length + (if ([]:List Keyword).isEmpty then 0 else 1) < 30))=true:=by rfl)
    (hline:(apos.endLine == cpos.line)=true:=by rfl) (hs:starEach (e::es) X.env=(false,eval e X.env)::starEach es X.env:=by rfl) (hplain:(backTo cpos (starEach es X.env)).any (·.1)=false:=by rfl) :
    PE X (.Call (.Attribute o name apos) (e::es) [] cpos) (tBM X.K T r to t):=by
  intro pins s σ H Q I h
  refine wpAny_Call_method_late hbase hfew hline rfl (thnG (ho pins s σ H _ I h) fun v s1 x H1 I1 r1 hh_=>?_)
  obtain ⟨ty,q1⟩:=hh_
  obtain ⟨h1,h2⟩:=tyV_is I1 r1 ty
  refine ⟨T,id,pa,slot,hty,h1,h2,?_⟩
  have hA:=ha cpos pins s1 σ H1 _ I1 q1
  rw [hs] at hA ⊢
  refine Calls.callWith_builtin (by show (false||(backTo cpos (starEach es X.env)).any (·.1))=false; rw [hplain] <;> rfl) (Calls.evalArgs_plain ?_)
  exact thnG hA fun us s2 vs H2 I2 r2 q2=>hm pins s2 σ H2 x vs v us Q I2 r1 r2 q2
end
noncomputable def MtM (X:Cx) (id:String) (r:V→List V→Hp→VK→Prop):Prop:=
  ∀ (pins:List (Addr×Obj)) (s:Shared) (σ:St) (H:Hp) (x:V) (xs:List V) (v:Value) (us:List Value) (Q:VK),Inv X pins σ H s→RelV x v→Vals xs us→r x xs H Q→
    wpAny (model X.prog X.w) X.A (call (.builtin id) (v::us)) (EP X pins σ Q) X.xe s
theorem Vals.one {x:V} {us:List Value} (h:Vals [x] us):∃ u,us=[u]∧RelV x u:=vals1 h
section
variable {X:Cx} {pins:List (Addr×Obj)} {σ:St} {H:Hp} {s:Shared} {l b:Addr} {xs ys zs:List V}
theorem Inv.lset {its its':List Value} {n:Nat} {f:Array Value→Array Value} {t':Nat} (I:Inv X pins σ H s) (hH:H l=some (.lst xs))
    (e:s.heap.get? l=some { cls:=.type "list",data:=.seq its.toArray n }) (hf:f its.toArray=its'.toArray) (hv:Vals ys its') (hz:ys.length≤sizeLine) :
    Inv X pins σ (upd H l (.lst ys)) { s with heap:=s.heap.update l (Obj.mapSeq f),toks:=t' }:=by
  have q:=PySem.IsL.update e f
  rw [hf] at q
  refine I.write (x:=l) (e:=l) (by rw [hH]; exact trivial) (.inl rfl) (fun b' u hb hu=>(Heap.get?_update_other s.heap (Obj.mapSeq f) (Ne.symm hb)).trans hu) ⟨_,q⟩ ?_
  exact ⟨hz,its',_,hv,q⟩
theorem Inv.lnew {its:List Value} {t':Nat} (I:Inv X pins σ H s) (hv:Vals ys its) (hz:ys.length≤sizeLine) :
    Inv X pins σ (upd H s.heap.objs.size (.lst ys)) { s with heap:=s.heap.push { cls:=.type "list",data:=.seq its.toArray },toks:=t' }:=
  I.laid (fun _ _ q=>Heap.get?_push_of_some _ q) (Nat.le_refl _) ⟨hz,its,0,hv,Heap.get?_push_size _ rfl⟩
theorem Inv.fresh (I:Inv X pins σ H s):H s.heap.objs.size=none:=I.hok.fresh (Nat.le_refl _)
theorem Inv.lstM (I:Inv X pins σ H s) (hH:H l=some (.lst xs)):xs.length≤sizeLine∧∃ (its:List Value) (n:Nat),Vals xs its∧xs.length=its.length∧s.heap.get? l=some { cls:=.type "list",data:=.seq its.toArray n }:=by
  obtain ⟨z,its,n,r,e⟩:=I.hok l _ hH
  exact ⟨z,its,n,r,r.length,e⟩
end
section
variable {X:Cx}
noncomputable def rAppend:V→List V→Hp→VK→Prop:=fun x vs H Q=>∃ l xs y,x=.ref l∧vs=[y]∧H l=some (.lst xs)∧xs.length < sizeLine∧Q .non (upd H l (.lst (xs++[y])))
theorem mt_append:MtM X "list.append" rAppend:=by
  intro pins s σ H x vs v us Q I rx rv h
  obtain ⟨l,xs,y,rfl,rfl,hH,hz,q⟩:=h
  cases rx
  obtain ⟨u,rfl,ru⟩:=rv.one
  obtain ⟨z,its,n,r,hl,e⟩:=I.lstM hH
  refine call_meets F.slot_list_append ⟨_,e,rfl⟩ F.entry_list_append (F.args_list_append_2 _ _) (PySem.list_append l its.toArray n u (by rw [List.size_toArray]; omega)) ⟨e,?_⟩
  refine ⟨.non,_,I.lset (its':=its++[u]) hH e (by simp) (r.append (.cons ru .nil)) ?_,rfl,q⟩
  rw [List.length_append,List.length_singleton]
  omega
end
section
variable {prog:Program} {w:World} {A:Around} {E:Value→Shared→Prop} {s:Shared}
set_option maxRecDepth 100000 in
end
section
variable {X:Cx}
end
end L2
namespace Att
open PySem PySem.W PySem.Calls PyProof.Rows
theorem ints_of_wellAll {P:Params} {h:Heap}:∀ (ns:List Int) (vs:List Value),WellAll P h vs (ns.map WData.int)→IntsAre vs ns:=by
  intro ns
  induction ns with
  | nil=>
    intro vs w
    rw [List.map_nil] at w
    cases w
    exact .nil
  | cons n ns ih=>
    intro vs w
    rw [List.map_cons] at w
    cases w with
    | cons a b=>
      cases a
      exact .cons _ _ (ih _ b)
theorem script_of {l:OpenLaw} {n:Nat} (hn:l.most=some n) {P:Params} {h:Heap} {args:List WData} {vals:List Value}
    (hpre:l.row.toRowW.claim.pre args=true) (hwl:WellAll P h vals args) :
    ∃ a vs ns,vals=[Value.ref a]∧args=[WData.list (ns.map WData.int)]∧h.get? a=some { cls:=.type "list",data:=.seq vs.toArray }∧IntsAre vs ns∧ns.length≤n:=by
  have hsh:WShape.hasAll [] args [.list .int]=true:=(pre_splitW hpre).1
  have hc:l.pre.holds [] { args:=args }=true:=(pre_splitW hpre).2
  obtain ⟨d,r,rfl,h1,h2⟩:=hasAllW_cons hsh
  obtain rfl:=hasAllW_nil h2
  obtain ⟨xs,rfl,h3⟩:=hasW_list h1
  obtain ⟨ns,rfl⟩:=items_int h3
  have hlen:ns.length≤n:=by
    unfold OpenLaw.pre at hc
    have h4:(WTm.not (.lt (.lit (.int (n:Int))) (.len (.arg 0)))).holds [] { args:=[.list (ns.map .int)] }=true:=by
      have h4:=(holds_andW hc).1
      rw [hn] at h4
      exact h4
    have h5:=condW_of h4 (w_not (w_lt w_lit (w_len_list (w_arg rfl))))
    rw [List.length_map] at h5
    refine Nat.le_of_not_lt fun q=>?_
    have q':(n:Int) < ((ns.length:Nat):Int):=by omega
    first
      | (rw [decide_eq_true q'] at h5; exact absurd h5 (by decide))
      | (simp at h5; omega)
  cases hwl with
  | cons w1 w2=>
    cases w2
    cases w1 with
    | list ho hall=>exact ⟨_,_,ns,rfl,rfl,ho,ints_of_wellAll ns _ hall,hlen⟩
theorem post_true (l:OpenLaw) (args:List WData):l.row.toRowW.claim.post args (.bool true) args=true:=
  postW_of (r:=l.row.toRowW) (X:=(true == true))
    (show WShape.has [] (.bool true) .bool=true by first | rfl | decide | simp [WShape.has,WShape.arms,WShape.armsAll])
    (show (WTm.eq .res (.lit (.bool true))).value [] { args:=args,res:=some (.bool true),after:=args }=some (.bool (true == true)) from w_eq_bool (w_res rfl) w_lit) rfl
theorem attach_call {l:OpenLaw} {n:Nat} {q:Program} {loose:List Str} {XP:(Str→Option Value)→Heap→Prop} {YP:World→Heap→Prop} {d:DefRec}
    (hn:l.most=some n) (hdf:d.params.defaults=[])
    (call:∀ (w:World) (s₀ s₁:Shared) (mg mb:Str→Option Value) (fa:Addr) (o:Obj) (pm cd doc:Value) (a:Addr) (vs:List Value) (ns:List Int),
      Ground q loose [] XP w s₀ mg mb s₁.heap→YP w s₁.heap→
      s₁.heap.get? fa=some o→o.data=.func (docDef d.name d.params d.body d.scope pm cd doc)→s₁.heap.CodeRec cd d.name→mg d.name=some (.ref fa)→
      s₁.heap.get? a=some { cls:=.type "list",data:=.seq vs.toArray }→IntsAre vs ns→ns.length≤n→s₁.gens=#[]→
      codeAny (model l.prog w) callerA (.call (.ref fa) ⟨[.ref a],[]⟩) (fun r s'=>r=.ok (.ret (.bool true))∧OldK s₁.heap s'.heap∧s'.os=s₁.os∧AllBare s'.gens) s₁) :
    WalkO q loose XP YP l.row.toRowW d [] (fun f vs=>PySem.call f vs):=by
  intro w s₀ s₁ mg mb G Y fa o pm cd doc dV kV ho hd hcd hD hmg hg args vals as hpre hlay hrd hwl hlo
  obtain rfl:dV=.none:=Dflts.none hD hdf
  obtain rfl:kV=.none:=Dflts.noKw hD
  obtain ⟨a,vs,ns,rfl,rfl,hobj,hints,hlen⟩:=script_of hn hpre hwl
  refine enter_call (codeAny_mono (call w s₀ s₁ mg mb fa o pm cd doc a vs ns G Y ho (fd_plain hd) hcd hmg hobj hints hlen hg) fun r s' hq=>?_)
  obtain ⟨rfl,h2,h3,h4⟩:=hq
  exact ⟨.inl ⟨.bool true,.bool true,[],rfl,fun _=>rfl,.bool true,post_true l _,fun _=>⟨List.Pairwise.nil,fun _ hm=>(nomatch hm)⟩⟩,h2,h3,h4⟩
section
variable {prog:Program} {w:World} {A:Around} {E:Value→Shared→Prop} {s:Shared} {K:Frag}
end
end Att
namespace L2
open PySem PySem.Spec PyProof.Rows
theorem vals_ints:∀ {vs:List Value} {ns:List Int},IntsAre vs ns→Vals (ns.map V.int) vs
  | _,_,.nil=>.nil
  | _,_,.cons n t h=>.cons ⟨t,rfl⟩ (vals_ints h)
noncomputable def Only (H:Hp):Prop:=∀ b,H b=none∨∃ o xs,H b=some (.frz o (.lst xs))
theorem law_call {P:Program} {w:World} {K:PySem.W.Frag} {mg mb:Str→Option Value} {CX:CXT} {k:Nat} {fa a:Addr} {fd:FuncData} {x:Str} {sp:Sp} {s₁:Shared} {vs:List Value} {ns:List Int}
    (KX:K.In s₁.heap) (hns:s₁.heap.Ns mainGlobals mg) (hb:s₁.heap.Ns builtinsNs mb) (hbb:∀ x:Str,x ≠ "__name__"→mb x=bootBuiltins x) (hlim:s₁.heap.NoLimit) (hg:s₁.gens=#[])
    (ha:s₁.heap.get? a=some { cls:=.type "list",data:=.seq vs.toArray }) (hi:IntsAre vs ns) (hl:ns.length≤sizeLine) (hr:Room k callerA)
    (F:∀ base:Heap,K.In base→base.Ns mainGlobals mg→FnOk P w K mg base CX k fa fd [x] sp) (hbind:∀ (s:Shared) (u:Value),BindsTo s fd ⟨[u],[]⟩ [(x,u)])
    (hsp:∀ H:Hp,Only H→SqL K H a (ns.map V.int)→sp [.ref a] H (fun v _=>v=.bl true) fun _ _ _=>False)
    (hCX:∀ H e s',CX [] H s₁ (fun _ _ _=>False) e s'→False) :
    codeAny (model P w) callerA (.call (.ref fa) ⟨[.ref a],[]⟩) (fun r s'=>r=.ok (.ret (.bool true))∧OldK s₁.heap s'.heap∧s'.os=s₁.os∧AllBare s'.gens) s₁:=by
  have rv:=vals_ints hi
  have lenV:=hi.length
  -- from an abstract heap in which nothing but the script may be tracked
  have core:∀ H:Hp,Only H→SqL K H a (ns.map V.int)→HOk P w H s₁.heap→(∀ b,H b≠none→b=a)→(H a≠none→K.lookup a=none)→
      codeAny (model P w) callerA (.call (.ref fa) ⟨[.ref a],[]⟩) (fun r s'=>r=.ok (.ret (.bool true))∧OldK s₁.heap s'.heap∧s'.os=s₁.os∧AllBare s'.gens) s₁:=by
    intro H hO hS hok hA hK
    have base_of:∀ {b:Addr} {o:Obj},s₁.heap.get? b=some o→H b=none→(hidT s₁.heap H).get? b=some o:=fun e n=>hidT_get e n
    have noA:∀ {b:Addr} {o:Obj} {es:Array DictEntry} {ep:Nat},s₁.heap.get? b=some o→o.data=.dict es ep→H b=none:=fun {b o es ep} e d=>by
      cases q:H b with
      | none=>rfl
      | some u=>
        have e':b=a:=hA b (by rw [q]; simp)
        subst e'
        rw [ha] at e; cases e
        have d':Data.seq vs.toArray _=Data.dict es ep:=d
        cases d'
    have nsK:∀ {b:Addr} {m:Str→Option Value},s₁.heap.Ns b m→(hidT s₁.heap H).Ns b m:=fun {b m} ⟨o,es,ep,e,d,r⟩=>⟨o,es,ep,base_of e (noA e d),d,r⟩
    have hKb:K.In (hidT s₁.heap H):=fun b o e=>base_of (KX b o e) (by
      cases q:H b with
      | none=>rfl
      | some u=>
        have e':b=a:=hA b (by rw [q]; simp)
        subst e'
        rw [hK (by rw [q]; simp)] at e; cases e)
    have hM:Mod K mg (hidT s₁.heap H):=⟨hKb,nsK hns,⟨mb,nsK hb,hbb⟩,let ⟨mc,h1,h2⟩:=hlim; ⟨mc,nsK h1,h2⟩⟩
    have e0:Env0 P w K mg (hidT s₁.heap H) callerA [] s₁ H:=⟨rfl,hM,fun b o e=>of_hidT e,Nat.le_of_eq (hidT_size _ _),trivial,fun b hb=>absurd (show b∈([]:List Addr) from hb) (by simp),hok,.of_eq hg⟩
    refine codeAny_mono ((F _ hKb (nsK hns)).run callerA [] s₁ H ⟨[.ref a],[]⟩ [.ref a] [.ref a] _ _ hr e0 (hbind s₁ (.ref a)) (.cons rfl .nil) (hsp H hO hS)) fun r s' h=>?_
    cases r with
    | error e=>exact (hCX H e s' h).elim
    | ok fl=>
      cases fl with
      | next=>exact False.elim h
      | brk=>exact False.elim h
      | cont=>exact False.elim h
      | ret u=>
        obtain ⟨v,H',os,bare,un,hok',r',q⟩:=h
        have q':v=.bl true:=q
        subst q'
        obtain rfl:u=Value.bool true:=r'
        refine ⟨rfl,OldK.of_keep fun b o e=>?_,os,bare⟩
        cases q:H b with
        | none=>exact un.keep b o e q (by intro z; exact absurd (show b∈([]:List Addr) from z) (by simp)) (by simp)
        | some u=>
          rcases hO b with z | ⟨ob,xs,z⟩
          · rw [q] at z; cases z
          · have z2:=un.frzs b ob _ z
            obtain ⟨e1,_⟩:=hok b _ z
            obtain ⟨e2,_⟩:=hok' b _ z2
            rw [e] at e1; cases e1
            exact e2
  cases hk:K.lookup a with
  | some o=>
    -- the script is one of the module's own objects
    have e:=KX a o hk
    rw [ha] at e
    cases e
    refine core (fun _=>none) (fun _=>.inl rfl) (.inr ⟨_,vs.toArray,_,hk,rfl,rfl,rfl,by rw [List.size_toArray,lenV]; exact hl,by simpa using rv⟩) (fun b u z=>by have z':(none:Option HO)=some u:=z; cases z') (fun b z=>absurd rfl z) fun z=>absurd rfl z
  | none=>
    refine core (fun b=>if b=a then some (.frz { cls:=.type "list",data:=.seq vs.toArray } (.lst (ns.map V.int))) else none) (fun b=>?_) (.inl (.inr ⟨{ cls:=.type "list",data:=.seq vs.toArray },if_pos rfl⟩)) (fun b u z=>?_) (fun b z=>?_) fun _=>hk
    · by_cases hb:b=a
      · exact .inr ⟨_,_,if_pos hb⟩
      · exact .inl (if_neg hb)
    · by_cases hb:b=a
      · have z':=(if_pos hb).symm.trans z
        cases z'
        subst hb
        exact ⟨ha,by rw [List.length_map]; exact hl,vs,_,rv,ha⟩
      · have z':=(if_neg hb).symm.trans z
        cases z'
    · by_cases hb:b=a
      · exact hb
      · exact absurd (if_neg hb) z
theorem walk_of {l:PySem.W.OpenLaw} {n k:Nat} {q:Program} {loose:List Str} {XP:(Str→Option Value)→Heap→Prop} {YP:World→Heap→Prop} {d:DefRec} {K:Params→PySem.W.Frag} {CX:World→CXT} {sp:World→Sp} {x:Str}
    (hn:l.most=some n) (hn2:n≤sizeLine) (hdf:d.params.defaults=[]) (hr:Room k callerA)
    (hY:∀ (w:World) (h:Heap),YP w h→(K w.params).In h)
    (F:∀ (w:World) (mg:Str→Option Value) (fa:Addr) (h:Heap),(K w.params).In h→h.Ns mainGlobals mg→mg d.name=some (.ref fa)→
      ∃ fd:FuncData,(∀ (s:Shared) (u:Value),BindsTo s fd ⟨[u],[]⟩ [(x,u)]) ∧
        ∀ base:Heap,(K w.params).In base→base.Ns mainGlobals mg→FnOk l.prog w (K w.params) mg base (CX w) k fa fd [x] (sp w))
    (hsp:∀ (w:World) (H:Hp) (a:Addr) (ns:List Int),ns.length≤n→Only H→SqL (K w.params) H a (ns.map V.int)→sp w [.ref a] H (fun v _=>v=.bl true) fun _ _ _=>False)
    (hCX:∀ (w:World) (H:Hp) (s:Shared) (e:Value) (s':Shared),CX w [] H s (fun _ _ _=>False) e s'→False) :
    PySem.W.WalkO q loose XP YP l.row.toRowW d [] (fun f vs=>PySem.call f vs):=by
  refine Att.attach_call hn hdf fun w s₀ s₁ mg mb fa o pm cd doc a vs ns G Y ho hd hcd hmg hobj hints hlen hg=>?_
  have KX:=hY w _ Y
  obtain ⟨fd,hb,hF⟩:=F w mg fa _ KX G.T.g hmg
  exact law_call KX G.T.g G.T.b G.T.builtins G.T.nolimit hg hobj hints (Nat.le_trans hlen hn2) hr hF hb (fun H hO hS=>hsp w H a ns hlen hO hS) fun H e s'=>hCX w H s₁ e s'
theorem walk_ofK {l:PySem.W.OpenLaw} {n k:Nat} {q:Program} {loose:List Str} {XP:(Str→Option Value)→Heap→Prop} {YP:World→Heap→Prop} {d:DefRec} {K:Params→PySem.W.Frag} {CX:CXT} {sp:PySem.W.Frag→Sp} {x:Str}
    (hn:l.most=some n) (hn2:n≤sizeLine) (hdf:d.params.defaults=[]) (hr:Room k callerA)
    (hY:∀ (w:World) (h:Heap),YP w h→(K w.params).In h)
    (F:∀ (w:World) (mg:Str→Option Value) (fa:Addr) (h:Heap),(K w.params).In h→h.Ns mainGlobals mg→mg d.name=some (.ref fa)→
      ∃ fd:FuncData,(∀ (s:Shared) (u:Value),BindsTo s fd ⟨[u],[]⟩ [(x,u)]) ∧
        ∀ base:Heap,(K w.params).In base→base.Ns mainGlobals mg→FnOk l.prog w (K w.params) mg base CX k fa fd [x] (sp (K w.params)))
    (hsp:∀ (K:PySem.W.Frag) (H:Hp) (a:Addr) (ns:List Int),ns.length≤n→Only H→SqL K H a (ns.map V.int)→sp K [.ref a] H (fun v _=>v=.bl true) fun _ _ _=>False)
    (hCX:∀ (H:Hp) (s:Shared) (e:Value) (s':Shared),CX [] H s (fun _ _ _=>False) e s'→False) :
    PySem.W.WalkO q loose XP YP l.row.toRowW d [] (fun f vs=>PySem.call f vs):=
  walk_of (K:=K) (CX:=fun _=>CX) (sp:=fun w=>sp (K w.params)) hn hn2 hdf hr hY F (fun w H a ns h1 h2 h3=>hsp (K w.params) H a ns h1 h2 h3) fun _ H s e s'=>hCX H s e s'
noncomputable def inClass (s:Stmt) (j:Nat):Stmt:=match s with
  | .ClassDef _ _ _ body _ _ _ _ _ _ _=>body.getD j (.Pass ⟨0,0,0,0⟩)
  | _=>.Pass ⟨0,0,0,0⟩
noncomputable def defArgs (s:Stmt):Arguments:=match s with
  | .FunctionDef _ a _ _ _ _ _ _ _ _=>a
  | _=>{ posonlyargs:=[],args:=[],vararg:=none,kwonlyargs:=[],kw_defaults:=[],kwarg:=none,defaults:=[] }
noncomputable def defBody (s:Stmt):List Stmt:=match s with
  | .FunctionDef _ _ b _ _ _ _ _ _ _=>b
  | _=>[]
noncomputable def defScope (s:Stmt):Scope:=match s with
  | .FunctionDef _ _ _ _ _ _ sc _ _ _=>sc
  | _=>{ kind:=.function,names:=[],isGenerator:=false,isCoroutine:=false }
noncomputable abbrev CX0:CXT:=fun _ _ _ _ _ _=>False
noncomputable abbrev E0:XK:=fun _ _ _=>False
theorem pass0 {X:Cx}:Passes CX0 X E0:=fun _ _ _ _ _ _ _ h=>h.elim
structure Fun (K:PySem.W.Frag) (x qual:Str) (st:Stmt) (f:Addr) (fd:FuncData):Prop where
  ex:∃ (oc:Value) (od:Option Addr) (kV doc pm:Value) (an:Option Addr) (cdv ct:Value) (osl:Array (Option Value)),
    fd=PySem.W.fnOf x qual (defArgs st) (defBody st) (defScope st) .none kV doc pm an cdv ct∧K.lookup f=some ⟨oc,od,.func fd,osl⟩∧PySem.W.codeIn K cdv qual=true
  kp:PySem.W.keepIn K (.ref f)=true
section
variable {P:Program} {w:World} {K:PySem.W.Frag} {mg:Str→Option Value} {base:Heap}
theorem Fun.ok {x qual:Str} {st:Stmt} {f:Addr} {fd:FuncData} {N ps:List Str} {k:Nat} {sp:Sp} (F:Fun K x qual st f fd) (S:FnScope N ps (defScope st)) (len:∀ vs H Q E,sp vs H Q E→vs.length=ps.length)
    (hbody:∀ (cdv:Value) (A:Around) (outer:List Env) (s:Shared) (H:Hp) (vs:List V) (Q:VK) (E:XK),Room k (A.deeper (envOfC qual (defScope st) s.heap.objs.size f cdv))→sp vs H Q E→
      ∃ t,PSs (cxOf CX0 P w K mg base N qual (defScope st) f cdv A outer s H E).nox (defBody st) t∧t { nx:=fun _ H'=>Q .non H',rt:=Q } (start N vs) H):FnOk P w K mg base CX0 (k + 1) f fd ps sp:=by
  obtain ⟨oc,od,kV,doc,pm,an,cdv,ct,osl,rfl,lk,hcd⟩:=F.ex
  refine fn_of lk hcd S len fun A outer s H vs Q E hr hsp=>?_
  obtain ⟨t,h,q⟩:=hbody cdv A outer s H vs Q E hr hsp
  exact ⟨t,h.nox,q⟩
theorem Fun.binds {x qual:Str} {st:Stmt} {f:Addr} {fd:FuncData} {ps:List Str} (F:Fun K x qual st f fd)
    (h:∀ (kV doc pm:Value) (an:Option Addr) (cdv ct:Value) (us:List Value),us.length=ps.length→bindArgs (PySem.W.fnOf x qual (defArgs st) (defBody st) (defScope st) .none kV doc pm an cdv ct) ⟨us,[]⟩=pure (ps.zip us)):Binds K fd ps []:=by
  obtain ⟨oc,od,kV,doc,pm,an,cdv,ct,osl,rfl,lk,hcd⟩:=F.ex
  exact .all (h kV doc pm an cdv ct)
theorem fun_mk {x qual:Str} {st:Stmt} {f:Addr} {oc:Value} {od an:Option Addr} {osl:Array (Option Value)} {kV doc pm cdv ct:Value} (l:K.lookup f=some ⟨oc,od,.func (PySem.W.fnOf x qual (defArgs st) (defBody st) (defScope st) .none kV doc pm an cdv ct),osl⟩)
    (c:PySem.W.codeIn K cdv qual=true) (k:PySem.W.keepIn K (.ref f)=true):Fun K x qual st f (PySem.W.fnOf x qual (defArgs st) (defBody st) (defScope st) .none kV doc pm an cdv ct):=⟨⟨oc,od,kV,doc,pm,an,cdv,ct,osl,rfl,l,c⟩,k⟩
end
section
variable {X:Cx}
theorem pv (i:Nat) {x:Str} {pos:Pos} (hN:X.N[i]?=some x:=by rfl) (hv:Vis X.env.scope x:=by first | exact Or.inl rfl | exact Or.inr (Or.inl rfl) | exact Or.inr (Or.inr rfl)) (hd:(x == ("__debug__":Str))=false:=by decide)
    (hcd:(x == ("__classdict__":Str))=false:=by decide):PE X (.Name x pos) (tVar i):=pe_var hN hv hd hcd
end
noncomputable def Same (H H':Hp):Prop:=∀ b o,H b=some o→H' b=some o
theorem Same.refl (H:Hp):Same H H:=fun _ _ h=>h
theorem Same.trans {H H1 H2:Hp} (a:Same H H1) (b:Same H1 H2):Same H H2:=fun c o h=>b c o (a c o h)
theorem Same.free {H H':Hp} (e:Same H H') {l:Addr} (h:H' l=Option.none):H l=Option.none:=by
  cases q:H l with
  | none=>rfl
  | some o=>
    rw [e l o q] at h
    cases h
theorem Same.seq {K:PySem.W.Frag} {H H':Hp} {a:Addr} {xs:List V} (e:Same H H') (h:SqL K H a xs):SqL K H' a xs:=by
  rcases h with (h | ⟨o,h⟩) | h
  · exact .inl (.inl (e _ _ h))
  · exact .inl (.inr ⟨o,e _ _ h⟩)
  · exact .inr h
end L2
set_option maxHeartbeats 4000000
namespace L2
open PySem PySem.Spec PyProof.Rows
noncomputable def closeL (cs:List (Str×Addr)):List (Str×NameKind)→List (Str×Addr)→List (Str×Addr)
  | [],acc=>acc
  | (n,k)::r,acc=>if k == .free then closeL cs r ((n,(cs.lookup n).getD 0)::acc) else closeL cs r acc
theorem closure_eq {scope:Scope} {env:Env} (h:∀ x∈scope.names,x.2=.free→∃ c,env.cells.lookup x.1=some c):closureFor scope env=pure (closeL env.cells scope.names []):=by
  have key:∀ (names:List (Str×NameKind)) (acc:List (Str×Addr)) (f:Str×NameKind→List (Str×Addr)→Sem (ForInStep (List (Str×Addr)))),
      (∀ n k r,f (n,k) r=if k == .free then (cellOf env n>>=fun c=>pure (.yield ((n,c)::r))) else pure (.yield r))→
      (∀ x∈names,x.2=.free→∃ c,env.cells.lookup x.1=some c)→forIn names acc f=pure (closeL env.cells names acc):=by
    intro names
    induction names with
    | nil=>intro acc f _ _; rfl
    | cons x r ih=>
      intro acc f hf hx
      obtain ⟨n,k⟩:=x
      rw [List.forIn_cons,hf]
      unfold closeL
      by_cases hk:(k == NameKind.free)=true
      · rw [if_pos hk,if_pos hk]
        obtain ⟨c,hc⟩:=hx (n,k) List.mem_cons_self (by simpa using hk)
        have e:cellOf env n=pure c:=by unfold cellOf; rw [hc]
        rw [e,pure_bind,pure_bind,hc]
        exact ih _ f hf fun y hy=>hx y (List.mem_cons_of_mem _ hy)
      · rw [if_neg hk,if_neg hk,pure_bind]
        exact ih _ f hf fun y hy=>hx y (List.mem_cons_of_mem _ hy)
  unfold closureFor
  show (forIn scope.names ([]:List (Str×Addr)) _>>=fun cs=>pure cs)=_
  rw [key scope.names [] _ (fun n k r=>by
    by_cases hk:(k == NameKind.free)=true
    · simp only [hk,if_true]
    · simp only [hk]) h]
  rfl
theorem look_cons {α:Type} (y n:Str) (c:α) (l:List (Str×α)):((n,c)::l).lookup y=if y=n then some c else l.lookup y:=by
  rw [List.lookup_cons]
  by_cases h:y=n
  · subst h; simp
  · have:(y == n)=false:=by simpa using h
    rw [this,if_neg h]
theorem closeL_sub {cs:List (Str×Addr)}:∀ (names:List (Str×NameKind)) (acc:List (Str×Addr)) (y:Str) (c:Addr),
    (∀ x∈names,x.2=.free→∃ c,cs.lookup x.1=some c)→(∀ y c,acc.lookup y=some c→cs.lookup y=some c)→(closeL cs names acc).lookup y=some c→cs.lookup y=some c
  | [],acc,y,c,_,h,e=>h y c e
  | (n,k)::r,acc,y,c,hx,h,e=>by
    unfold closeL at e
    have hr:∀ x∈r,x.2=.free→∃ c,cs.lookup x.1=some c:=fun x hm=>hx x (List.mem_cons_of_mem _ hm)
    by_cases hk:(k == NameKind.free)=true
    · rw [if_pos hk] at e
      refine closeL_sub r _ y c hr (fun z d ez=>?_) e
      obtain ⟨c',hc'⟩:=hx (n,k) List.mem_cons_self (by simpa using hk)
      rw [look_cons] at ez
      split at ez
      · rename_i q
        subst q
        cases ez
        rw [hc']
        rfl
      · exact h z d ez
    · rw [if_neg hk] at e
      exact closeL_sub r acc y c hr h e
theorem closeL_names {cs:List (Str×Addr)}:∀ (names:List (Str×NameKind)) (acc:List (Str×Addr)) (y:Str) (c:Addr),
    (closeL cs names acc).lookup y=some c→(y,NameKind.free)∈names∨acc.lookup y=some c
  | [],acc,y,c,e=>.inr e
  | (n,k)::r,acc,y,c,e=>by
    unfold closeL at e
    by_cases hk:(k == NameKind.free)=true
    · rw [if_pos hk] at e
      have hk':k=.free:=by simpa using hk
      rcases closeL_names r _ y c e with q | q
      · exact .inl (List.mem_cons_of_mem _ q)
      · rw [look_cons] at q
        split at q
        · rename_i z
          subst z
          subst hk'
          exact .inl List.mem_cons_self
        · exact .inr q
    · rw [if_neg hk] at e
      rcases closeL_names r acc y c e with q | q
      · exact .inl (List.mem_cons_of_mem _ q)
      · exact .inr q
theorem closeL_has {cs:List (Str×Addr)}:∀ (names:List (Str×NameKind)) (acc:List (Str×Addr)) (y:Str),
    ((y,NameKind.free)∈names∨∃ c,acc.lookup y=some c)→∃ c,(closeL cs names acc).lookup y=some c
  | [],acc,y,h=>h.elim (fun z=>by cases z) id
  | (n,k)::r,acc,y,h=>by
    unfold closeL
    by_cases hk:(k == NameKind.free)=true
    · rw [if_pos hk]
      refine closeL_has r _ y ?_
      rcases h with h | ⟨c,h⟩
      · rcases List.mem_cons.mp h with q | q
        · cases q
          exact .inr ⟨_,by rw [look_cons,if_pos rfl]⟩
        · exact .inl q
      · refine .inr ?_
        by_cases q:y=n
        · exact ⟨_,by rw [look_cons,if_pos q]⟩
        · exact ⟨c,by rw [look_cons,if_neg q]; exact h⟩
    · rw [if_neg hk]
      refine closeL_has r acc y ?_
      rcases h with h | h
      · rcases List.mem_cons.mp h with q | q
        · cases q
          exact absurd rfl hk
        · exact .inl q
      · exact .inr h
theorem cf_look:∀ (names:List (Str×NameKind)) (h:Heap) (acc:List (Str×Addr)) (y:Str) (c:Addr),(cellsFrom h.objs.size names acc).lookup y=some c→
    (h.objs.size≤c∧(pushCells h names).IsCell c none∧(y,NameKind.cell)∈names)∨acc.lookup y=some c
  | [],_,_,_,_,e=>.inr e
  | (n,k)::r,h,acc,y,c,e=>by
    unfold cellsFrom at e
    unfold pushCells
    by_cases hk:(k == NameKind.cell)=true
    · rw [if_pos hk] at e ⊢
      have hk':k=.cell:=by simpa using hk
      have hz:(h.push { cls:=.type "cell",data:=.cell none }).objs.size=h.objs.size + 1:=Heap.size_push ..
      rw [← hz] at e
      rcases cf_look r _ _ y c e with ⟨q1,q2,q3⟩ | q
      · exact .inl ⟨by rw [hz] at q1; omega,q2,List.mem_cons_of_mem _ q3⟩
      · rw [look_cons] at q
        split at q
        · rename_i z
          subst z
          cases q
          subst hk'
          exact .inl ⟨Nat.le_refl _,⟨_,pushCells_keeps r _ _ _ (Heap.get?_push_size _ rfl),rfl⟩,List.mem_cons_self⟩
        · exact .inr q
    · rw [if_neg hk] at e ⊢
      rcases cf_look r h acc y c e with ⟨q1,q2,q3⟩ | q
      · exact .inl ⟨q1,q2,List.mem_cons_of_mem _ q3⟩
      · exact .inr q
theorem cf_old {y:Str}:∀ (names:List (Str×NameKind)) (n:Nat) (acc:List (Str×Addr)),(∀ k,(y,k)∈names→k≠.cell)→(cellsFrom n names acc).lookup y=acc.lookup y
  | [],_,_,_=>rfl
  | (m,k)::r,n,acc,h=>by
    unfold cellsFrom
    have hr:∀ k,(y,k)∈r→k≠.cell:=fun k hk=>h k (List.mem_cons_of_mem _ hk)
    by_cases hk:(k == NameKind.cell)=true
    · rw [if_pos hk,cf_old r _ _ hr,look_cons,if_neg]
      rintro rfl
      exact h k List.mem_cons_self (by simpa using hk)
    · rw [if_neg hk]
      exact cf_old r n acc hr
theorem cf_inj:∀ (names:List (Str×NameKind)) (n:Nat) (acc:List (Str×Addr)),(∀ y c,acc.lookup y=some c→c < n)→(∀ y z c,acc.lookup y=some c→acc.lookup z=some c→y=z)→
    ∀ y z c,(cellsFrom n names acc).lookup y=some c→(cellsFrom n names acc).lookup z=some c→y=z
  | [],_,_,_,h=>h
  | (m,k)::r,n,acc,hlt,h=>by
    unfold cellsFrom
    by_cases hk:(k == NameKind.cell)=true
    · rw [if_pos hk]
      refine cf_inj r (n + 1) _ (fun y c e=>?_) fun y z c e e'=>?_
      · rw [look_cons] at e
        split at e
        · cases e; exact Nat.lt_succ_self _
        · exact Nat.lt_succ_of_lt (hlt y c e)
      · rw [look_cons] at e e'
        split at e <;> split at e'
        · rename_i a b; rw [a,b]
        · cases e; exact absurd (hlt z _ e') (Nat.lt_irrefl _)
        · cases e'; exact absurd (hlt y _ e) (Nat.lt_irrefl _)
        · exact h y z c e e'
    · rw [if_neg hk]
      exact cf_inj r n acc hlt h
noncomputable def blkEnv (env:Env) (scope:Scope) (C:Addr):Env:=
  { scope:=relabel scope env,locals:=C,globals:=env.globals,cells:=cellsFrom (C + 1) scope.names (closeL env.cells scope.names []),qual:=env.qual,func:=none,code:=env.code,frame:=env.frame,builtins:=env.builtins }
noncomputable def blk (X:Cx) (scope:Scope) (N:List Str) (s:Shared) (H:Hp) (fp:List Addr) (pins:List (Addr×Obj)):Cx where
  prog:=X.prog
  w:=X.w
  K:=X.K
  mg:=X.mg
  base:=X.base
  A:=X.A
  N:=N
  s₀:=s
  H₀:=H
  env:=blkEnv X.env scope s.heap.objs.size
  outer:=X.stack
  stack:=X.stack
  ex:=fp
  fn:=fun x=>scope.names.lookup x == some .local||scope.names.lookup x == some .cell
  calm:=X.calm
  pn:=X.pn++pins
  xe:=fun _ _=>False
structure BlkScope (X:Cx) (scope:Scope):Prop where
  kind:scope.kind=.function
  nd:(scope.names.map (·.1)).Nodup
  free:∀ x∈scope.names,x.2=.free→X.env.kindOf x.1=some .cell∨X.env.kindOf x.1=some .free
theorem lookup_of_mem {α:Type}:∀ {l:List (Str×α)} {n:Str} {c:α},(l.map (·.1)).Nodup→(n,c)∈l→l.lookup n=some c
  | [],_,_,_,h=>by cases h
  | (k,v)::r,n,c,nd,h=>by
    rw [look_cons]
    rcases List.mem_cons.mp h with q | q
    · cases q; rw [if_pos rfl]
    · have nd':=List.nodup_cons.mp nd
      rw [if_neg]
      · exact lookup_of_mem nd'.2 q
      · rintro rfl
        exact nd'.1 (List.mem_map.mpr ⟨_,q,rfl⟩)
theorem relabel_look {env:Env} {x:Str}:∀ (names:List (Str×NameKind)),
    (names.map fun (n,k)=>if (k == NameKind.free&&env.scope.kind == .function&&env.kindOf n == some .cell) then (n,NameKind.cell) else (n,k)).lookup x =
      (names.lookup x).map fun k=>if (k == NameKind.free&&env.scope.kind == .function&&env.kindOf x == some .cell) then NameKind.cell else k
  | []=>rfl
  | (n,k)::r=>by
    show List.lookup x ((if (k == NameKind.free&&env.scope.kind == .function&&env.kindOf n == some .cell)=true then (n,NameKind.cell) else (n,k))::_)=_
    have e:(if (k == NameKind.free&&env.scope.kind == .function&&env.kindOf n == some .cell)=true then (n,NameKind.cell) else (n,k)) =
        (n,if (k == NameKind.free&&env.scope.kind == .function&&env.kindOf n == some .cell)=true then NameKind.cell else k):=by split <;> rfl
    rw [e,look_cons,look_cons]
    split
    · rename_i q
      subst q
      rfl
    · exact relabel_look r
theorem blk_kindOf {env:Env} {scope:Scope} {C:Addr} (x:Str):(blkEnv env scope C).kindOf x =
    (scope.names.lookup x).map fun k=>if (k == NameKind.free&&env.scope.kind == .function&&env.kindOf x == some .cell) then NameKind.cell else k:=relabel_look scope.names
section
variable {X:Cx} {pins:List (Addr×Obj)} {σ:St} {H:Hp} {s:Shared} {scope:Scope} {N:List Str} {fp:List Addr}
theorem BlkScope.cl (b:BlkScope X scope) (ok:X.Ok):∀ x∈scope.names,x.2=.free→∃ c,X.env.cells.lookup x.1=some c:=fun x hx e=>ok.has x.1 (b.free x hx e)
theorem blk_cells (b:BlkScope X scope) (I:Inv X pins σ H s) {y:Str} {c:Addr} (e:(blkEnv X.env scope s.heap.objs.size).cells.lookup y=some c) :
    (s.heap.objs.size < c∧(pushCells (s.heap.push { cls:=.type "dict",data:=.dict #[] }) scope.names).IsCell c none∧(y,NameKind.cell)∈scope.names)∨(X.env.cells.lookup y=some c∧(y,NameKind.free)∈scope.names):=by
  have hz:(s.heap.push { cls:=.type "dict",data:=.dict #[] }).objs.size=s.heap.objs.size + 1:=Heap.size_push ..
  have e':(cellsFrom (s.heap.push { cls:=.type "dict",data:=.dict #[] }).objs.size scope.names (closeL X.env.cells scope.names [])).lookup y=some c:=by rw [hz]; exact e
  rcases cf_look _ _ _ _ _ e' with ⟨h1,h2,h3⟩ | h
  · exact .inl ⟨by rw [hz] at h1; omega,h2,h3⟩
  · refine .inr ⟨closeL_sub _ _ y c (b.cl I.ok) (fun _ _ z=>by cases z) h,?_⟩
    rcases closeL_names _ _ _ _ h with q | q
    · exact q
    · cases q
theorem blk_ok (b:BlkScope X scope) (I:Inv X pins σ H s) (hf:∀ a∈fp,FpOk X pins H a) (hlt:∀ a∈fp,a < s.heap.objs.size):(blk X scope N s H fp pins).Ok:=by
  have clt:∀ y c,X.env.cells.lookup y=some c→c < s.heap.objs.size:=fun y c e=>by obtain ⟨v,q⟩:=I.cell y c e; exact q.lt
  refine ⟨I.ok.mod,b.kind,I.ok.glob,I.ok.blt,Nat.le_refl _,fun x y c e e'=>?_,fun x hx=>?_,fun x c hx e=>?_,I.ok.hd,I.ok.frames,.inl rfl,fun a ha=>⟨Nat.ne_of_lt (hlt a ha),fun x c e=>?_⟩,I.bs,Nat.le_trans I.ok.bsz I.sz,fun a o e ha=>?_,fun a ha=>?_,I.stack,I.stkFree⟩
  · refine cf_inj scope.names (s.heap.objs.size + 1) _ (fun y c q=>?_) (fun y z c q q'=>?_) x y c e e'
    · exact Nat.lt_succ_of_lt (clt y c (closeL_sub _ _ y c (b.cl I.ok) (fun _ _ z=>by cases z) q))
    · exact I.ok.inj y z c (closeL_sub _ _ y c (b.cl I.ok) (fun _ _ z=>by cases z) q) (closeL_sub _ _ z c (b.cl I.ok) (fun _ _ z=>by cases z) q')
  · have hx':(blkEnv X.env scope s.heap.objs.size).kindOf x=some .cell∨(blkEnv X.env scope s.heap.objs.size).kindOf x=some .free:=hx
    rw [blk_kindOf] at hx'
    show ∃ c,(cellsFrom (s.heap.objs.size + 1) scope.names (closeL X.env.cells scope.names [])).lookup x=some c
    cases q:scope.names.lookup x with
    | none=>rw [q] at hx'; rcases hx' with z | z <;> cases z
    | some k=>
      have hm:(x,k)∈scope.names:=PySem.mem_of_lookup q
      cases k with
      | cell=>exact Option.isSome_iff_exists.mp (PySem.W.cellsFrom_some scope.names _ _ (.inl q))
      | free=>
        obtain ⟨c,hc⟩:=closeL_has (cs:=X.env.cells) scope.names [] x (.inl hm)
        exact Option.isSome_iff_exists.mp (PySem.W.cellsFrom_some scope.names _ _ (.inr (by rw [hc]; rfl)))
      | _=>rw [q] at hx'; exfalso; revert hx'; simp
  · rcases blk_cells b I e with ⟨h1,_,_⟩ | ⟨_,h2⟩
    · exact Nat.le_of_lt h1
    · exfalso
      have q:=lookup_of_mem b.nd h2
      have hx':(scope.names.lookup x == some .local||scope.names.lookup x == some .cell)=true:=hx
      rw [q] at hx'
      revert hx'
      decide
  · rcases blk_cells b I e with ⟨h1,_,_⟩ | ⟨h1,_⟩
    · intro z
      subst z
      exact absurd (Nat.lt_trans (hlt _ ha) h1) (Nat.lt_irrefl _)
    · exact (hf a ha).2.2.2.2.1 x c h1
  · have h4:=(hf a ha).2.2.2.1
    rcases h4 with z | z
    · exact I.ok.noex a o e z
    · exact absurd (Nat.lt_of_lt_of_le (Heap.lt_size e) (Nat.le_trans I.ok.bsz z)) (Nat.lt_irrefl _)
  · intro z
    rcases List.mem_cons.mp (I.stkSub a z) with q | q
    · exact (hf a ha).2.1 q
    · exact (hf a ha).2.2.1 q
noncomputable def capSt (own:Nat) (ix:List Nat) (σ:St):St:=List.replicate own none++ix.map fun j=>(σ[j]?).join
theorem capSt_len (own:Nat) (ix:List Nat) (σ:St):(capSt own ix σ).length=own + ix.length:=by
  unfold capSt; rw [List.length_append,List.length_replicate,List.length_map]
theorem capSt_get {own:Nat} {ix:List Nat} {σ:St} {i:Nat} {v:V} (h:(capSt own ix σ)[i]?=some (some v)):own≤i∧∃ j,ix[i - own]?=some j∧σ[j]?=some (some v):=by
  unfold capSt at h
  by_cases hi:i < own
  · rw [List.getElem?_append_left (by rw [List.length_replicate]; exact hi),List.getElem?_replicate,if_pos hi] at h
    cases h
  · rw [List.getElem?_append_right (by rw [List.length_replicate]; omega),List.length_replicate,List.getElem?_map] at h
    refine ⟨by omega,?_⟩
    cases q:ix[i - own]? with
    | none=>rw [q] at h; cases h
    | some j=>
      rw [q] at h
      refine ⟨j,rfl,?_⟩
      cases q2:σ[j]? with
      | none=>rw [Option.map_some,q2] at h; cases h
      | some o=>
        rw [Option.map_some,q2] at h
        cases o with
        | none=>cases h
        | some v'=>rw [Option.join_some] at h; cases h; rfl
structure Caps (X:Cx) (scope:Scope) (N:List Str) (own:Nat) (ix:List Nat):Prop where
  len:N.length=own + ix.length
  cap:∀ (i:Nat) (j:Nat) (x:Str),N[own + i]?=some x→ix[i]?=some j→X.N[j]?=some x∧scope.names.lookup x=some .free
theorem blk_start {own:Nat} {ix:List Nat} (b:BlkScope X scope) (cp:Caps X scope N own ix) (I:Inv X pins σ H s) (hf:∀ a∈fp,FpOk X pins H a) (hlt:∀ a∈fp,a < s.heap.objs.size) :
    Inv (blk X scope N s H fp pins) [] (capSt own ix σ) H { s with heap:=pushCells (s.heap.push { cls:=.type "dict",data:=.dict #[] }) scope.names }:=by
  have kp:∀ a o,s.heap.get? a=some o→(pushCells (s.heap.push { cls:=.type "dict",data:=.dict #[] }) scope.names).get? a=some o:=fun a o e=>pushCells_keeps _ _ a o (Heap.get?_push_of_some _ e)
  refine ⟨blk_ok b I hf hlt,rfl,I.bare,Un.kept kp,⟨_,(Heap.Ns.new s.heap (.type "dict")).keeps (pushCells_keeps _ _),fun i x v e1 e2 e3=>?_⟩,fun y c e=>?_,I.fresh,fun y c e=>?_,fun p hp=>?_,I.hok.kept kp,?_⟩
  · obtain ⟨ho,j,ej,ev⟩:=capSt_get e2
    have e1':N[own + (i - own)]?=some x:=by rw [show own + (i - own)=i by omega]; exact e1
    obtain ⟨hN,hfree⟩:=cp.cap (i - own) j x e1' ej
    obtain ⟨m,hn,hl⟩:=I.loc
    have hk:X.env.kindOf x=some .cell∨X.env.kindOf x=some .free:=b.free (x,.free) (PySem.mem_of_lookup hfree) rfl
    have hv:Vis X.env.scope x:=hk.elim (fun z=>.inr (.inl z)) fun z=>.inr (.inr z)
    obtain ⟨u,r,lk⟩:=hl j x v hN ev hv
    refine ⟨u,r,.inr ⟨?_,?_⟩⟩
    · show (blkEnv X.env scope s.heap.objs.size).kindOf x=some .cell∨(blkEnv X.env scope s.heap.objs.size).kindOf x=some .free
      rw [blk_kindOf,hfree]
      show some (if _ then NameKind.cell else NameKind.free)=some .cell∨some (if _ then NameKind.cell else NameKind.free)=some .free
      split
      · exact .inl rfl
      · exact .inr rfl
    · rcases lk with ⟨k,_⟩ | ⟨_,c,ec,z⟩
      · rw [k] at hk
        rcases hk with z | z <;> cases z
      · refine ⟨c,?_,z.keeps kp⟩
        show (cellsFrom (s.heap.objs.size + 1) scope.names (closeL X.env.cells scope.names [])).lookup x=some c
        rw [cf_old]
        · obtain ⟨c',hc'⟩:=closeL_has (cs:=X.env.cells) scope.names [] x (.inl (PySem.mem_of_lookup hfree))
          have:=closeL_sub _ _ x c' (b.cl I.ok) (fun _ _ z=>by cases z) hc'
          rw [ec] at this
          cases this
          exact hc'
        · intro k hk' z
          rw [lookup_of_mem b.nd hk'] at hfree
          cases hfree
          cases z
  · rcases blk_cells b I e with ⟨_,h2,_⟩ | ⟨h1,_⟩
    · exact ⟨_,h2⟩
    · obtain ⟨v,z⟩:=I.cell y c h1
      exact ⟨v,z.keeps kp⟩
  · rcases blk_cells b I e with ⟨h1,_,_⟩ | ⟨h1,_⟩
    · exact I.hok.fresh (Nat.le_of_lt h1)
    · exact I.freeC y c h1
  · have hp':p∈X.pn++pins:=by
      have:p∈(X.pn++pins)++[]:=hp
      rwa [List.append_nil] at this
    obtain ⟨e,n,ne,nf,d⟩:=I.pin p hp'
    refine ⟨kp _ _ e,n,Nat.ne_of_lt (Heap.lt_size e),fun z=>?_,d⟩
    rcases List.mem_cons.mp (I.stkSub p.1 z) with q | q
    · exact ne q
    · exact nf q
  · rw [capSt_len]
    exact cp.len.symm
theorem blk_exit {σ':St} {H':Hp} {s':Shared} {h':Heap} {pl:List (Addr×Obj)} (I:Inv X pins σ H s) (hf:∀ a∈fp,FpOk X pins H a) (J:Inv (blk X scope N s H fp pins) pl σ' H' s') (hs:Heap.SameBut s.heap.objs.size s'.heap h') :
    Inv X pins σ H' { s' with heap:=h' }:=by
  have hC:H' s.heap.objs.size=none:=J.free
  have ne:∀ a o,s.heap.get? a=some o→a≠s.heap.objs.size:=fun a o e=>Nat.ne_of_lt (Heap.lt_size e)
  have u:Un (frs X.stack) fp H H' s.heap s'.heap:=J.base
  refine I.call' (ch:=fp) (s':={ s' with heap:=h' }) J.os ⟨fun a o e n h1 h2=>(hs.2 a (ne a o e)).trans (u.keep a o e n h1 h2),fun a o e n h1 h2=>?_,fun a o e n h2=>u.free a o e n h2,fun a o e h2=>?_,u.tups,u.frzs,u.tbls⟩ (fun a o e=>?_) J.bare fun a ha=>?_
  · obtain ⟨sl,q⟩:=u.slot a o e n h1 h2
    exact ⟨sl,(hs.2 a (ne a o e)).trans q⟩
  · obtain ⟨o',q⟩:=u.there a o e h2
    exact ⟨o',(hs.2 a (ne a o e)).trans q⟩
  · refine (J.hok a o e).stay (fun c v hc q=>(hs.2 c ?_).trans q) (fun _ q=>q) fun _ _ q=>q
    rintro rfl
    rcases hc with rfl | hc
    · rw [hC] at e; cases e
    · rw [hC] at hc; cases hc
  · obtain ⟨_,h2,_,h4,h5,h6⟩:=hf a ha
    exact ⟨h4,h2,h5,h6⟩
theorem blk_fp {pl:List (Addr×Obj)} {H':Hp} (b:BlkScope X scope) (I:Inv X pins σ H s) (hf:∀ a∈fp,FpOk X pins H a) (hlt:∀ a∈fp,a < s.heap.objs.size) (hn:∀ a∈fp,H' a=none) :
    ∀ a∈fp,FpOk (blk X scope N s H fp pins) [] H' a:=fun a ha=>by
  obtain ⟨_,h2,h3,h4,h5,h6⟩:=hf a ha
  refine ⟨hn a ha,Nat.ne_of_lt (hlt a ha),fun z=>?_,.inl ha,fun x c e=>?_,fun p hp=>?_⟩
  · rcases List.mem_cons.mp (I.stkSub a z) with q | q
    · exact h2 q
    · exact h3 q
  · rcases blk_cells b I e with ⟨q,_,_⟩ | ⟨q,_⟩
    · intro z
      subst z
      exact absurd (Nat.lt_trans (hlt _ ha) q) (Nat.lt_irrefl _)
    · exact h5 x c q
  · have hp':p∈X.pn++pins:=by
      have:p∈(X.pn++pins)++[]:=hp
      rwa [List.append_nil] at this
    exact h6 p hp'
end
theorem newEnv_blk {M:Model} {A:Around} {E:Value→Shared→Prop} {s:Shared} {scope:Scope} {env:Env} {Q:Env→Shared→Prop} (cl:List (Str×Addr))
    (h:∀ cenv:Env,cenv={ scope:=scope,locals:=s.heap.objs.size,globals:=env.globals,cells:=cellsFrom (s.heap.objs.size + 1) scope.names cl,qual:=env.qual,func:=none,code:=env.code,frame:=env.frame,builtins:=env.builtins }→
      Q cenv { s with heap:=pushCells (s.heap.push { cls:=.type "dict",data:=.dict #[] }) scope.names }) :
    wpAny M A (newFunctionEnv scope env.globals cl [] env.qual none .none (some env)) Q E s:=by
  simp only [newFunctionEnv,Option.isSome_some,if_true]
  refine wpAny_bind (wpAny_alloc ?_)
  refine wpAny_bind (wpAny_layCells _ (fun name kind cells=>by cases hkc:kind == NameKind.cell <;> simp [hkc]) _ _ _ _ ?_)
  rw [show ({ s with heap:=s.heap.push { cls:=.type "dict",data:=.dict #[] } }:Shared).heap.objs.size=s.heap.objs.size + 1 from Heap.size_push ..]
  refine wpAny_bind ?_
  rw [List.forIn_nil]
  exact wpAny_pure (wpAny_pure (h _ rfl))
theorem comp_loop {prog:Program} {w:World} {A:Around} {R:Result→Shared→Prop} {s:Shared} {elt target iter:Expr} {ifs:List Expr} {scope:Scope} {pos:Pos} {it acc:Value} {env:Env} (I:Nat→Shared→Prop)
    (turn:∀ n s,I n s→wpAny (model prog w) A (pyNext it) (fun r s₁=>match r with
      | none=>R (.ok .next) s₁
      | some v=>wpAny (model prog w) A (letOwnedTupleGo target it v) (fun _ s₁=>wpAny (model prog w) A (assign target env v) (fun _ s₂=>
          wpAny (model prog w) A (forIn ifs true fun c r=>if r=true then do let ok ← isTrue c env (eval c env); pure (ForInStep.yield ok) else pure (ForInStep.yield r)) (fun ok s₃=>
            if ok=true then wpAny (model prog w) A (eval elt env) (fun x s₄=>
              wpAny (model prog w) A (call (.builtin "list.append") [acc,x]) (fun _ s₅=>∃ m,m < n∧I m s₅) (fun _ _=>False) s₄) (fun _ _=>False) s₃
            else ∃ m,m < n∧I m s₃) (fun _ _=>False) s₂) (fun _ _=>False) s₁) (fun _ _=>False) s₁) (fun _ _=>False) s)
    (n:Nat) (h:I n s) :
    codeAny (model prog w) A (.compLoop (.ListComp elt [⟨target,iter,ifs,0⟩] scope pos) 0 it acc env) R s:=by
  refine codeAny_loop rfl I (fun n s hI=>?_) n h
  show wpAny _ A ((compTurn (.ListComp elt [⟨target,iter,ifs,0⟩] scope pos) 0 it acc env).onRaise (fun x=>do noteFrame x env; theTreesLotGoes x)) _ _ s
  refine wpAny_noted ?_
  rw [compTurn_list]
  refine wpAny_bind (wpAny_standAt (wpAny_bind (wpAny_mono (turn n s hI) (fun r s₁ h₁=>?_) fun _ _ h'=>h'.elim)))
  cases r with
  | none=>exact wpAny_pure h₁
  | some v=>
    refine wpAny_bind (wpAny_mono h₁ (fun _ s₁' h₁'=>?_) fun _ _ h'=>h'.elim)
    refine wpAny_bind (wpAny_mono h₁' (fun _ s₂ h₂=>wpAny_bind (wpAny_mono h₂ (fun ok s₃ h₃=>?_) fun _ _ h'=>h'.elim)) fun _ _ h'=>h'.elim)
    cases ok with
    | true=>
      rw [if_pos rfl] at h₃
      simp only [if_true]
      exact wpAny_bind (wpAny_bind (wpAny_mono h₃ (fun x s₄ h₄=>wpAny_bind (wpAny_mono h₄ (fun _ s₅ h₅=>wpAny_pure (wpAny_pure ⟨rfl,h₅⟩)) fun _ _ h'=>h'.elim)) fun _ _ h'=>h'.elim))
    | false=>
      rw [if_neg Bool.false_ne_true] at h₃
      simp only [Bool.false_eq_true,if_false]
      exact wpAny_pure ⟨rfl,h₃⟩
noncomputable def tYes:TT:=fun _ H Q=>Q true H
noncomputable def PIfs (X:Cx) (ifs:List Expr) (t:TT):Prop:=
  ∀ (pins:List (Addr×Obj)) (s:Shared) (σ:St) (H:Hp) (Q:Bool→Hp→Prop),Inv X pins σ H s→t σ H Q→
    wpAny (model X.prog X.w) X.A (forIn ifs true fun c r=>if r=true then do let ok ← isTrue c X.env (eval c X.env); pure (ForInStep.yield ok) else pure (ForInStep.yield r)) (TP X pins σ Q) X.xe s
theorem pifs_nil {X:Cx}:PIfs X [] tYes:=fun _ _ _ H _ I h=>wpAny_pure ⟨H,I,h⟩
noncomputable def tComp (own:Nat) (ix:List Nat) (wi:TI) (g:TG) (tc:TT) (te:TE):TE:=fun σ H Q=>wi σ H fun J H1=>∀ acc,H1 acc=none→∃ W:Nat→Nat→List V→Hp→Prop,
  (∃ m,W 0 m [] (upd H1 acc (.lst [])))∧∀ i m ys H,W i m ys H→
    (J.stop i H∧Q (.ref acc) H)∨(J.go i H∧∃ N:List V→Hp→Prop,(∀ ys' H',N ys' H'→∃ m',m' < m∧W (i + 1) m' ys' H')∧∀ x H',J.yld i H x H'→g x (capSt own ix σ) H' fun σ2 H2=>
      (σ2.length=own + ix.length∧∀ (j:Nat) v,(capSt own ix σ)[j]?=some (some v)→σ2[j]?=some (some v)) ∧
      tc σ2 H2 fun ok H3=>if ok=true then te σ2 H3 fun y H4=>H4 acc=some (.lst ys)∧ys.length < sizeLine∧N (ys++[y]) (upd H4 acc (.lst (ys++[y]))) else N ys H3)
section
variable {X:Cx} {elt tg iter:Expr} {ifs:List Expr} {scope:Scope} {pos:Pos} {N:List Str} {own:Nat} {ix:List Nat} {wi:TI} {g:TG} {tc:TT} {te:TE}
theorem comp_block {pins:List (Addr×Obj)} {σ:St} {s:Shared} {Q:VK} {itv:Value} {RR:Value→Addr→Result→Shared→Prop} {E:Value→Shared→Prop} (hcalm:X.calm=true) (b:BlkScope X scope) (cp:Caps X scope N own ix)
    (hg:∀ s H fp pins,PG (blk X scope N s H fp pins) tg g) (hc:∀ s H fp pins,PIfs (blk X scope N s H fp pins) ifs tc) (he:∀ s H fp pins,PE (blk X scope N s H fp pins) elt te)
    (hp:PIE X pins σ tg (fun J H1=>∀ acc,H1 acc=none→∃ W:Nat→Nat→List V→Hp→Prop,
      (∃ m,W 0 m [] (upd H1 acc (.lst [])))∧∀ i m ys H,W i m ys H→
        (J.stop i H∧Q (.ref acc) H)∨(J.go i H∧∃ N:List V→Hp→Prop,(∀ ys' H',N ys' H'→∃ m',m' < m∧W (i + 1) m' ys' H')∧∀ x H',J.yld i H x H'→g x (capSt own ix σ) H' fun σ2 H2=>
          (σ2.length=own + ix.length∧∀ (j:Nat) v,(capSt own ix σ)[j]?=some (some v)→σ2[j]?=some (some v)) ∧
          tc σ2 H2 fun ok H3=>if ok=true then te σ2 H3 fun y H4=>H4 acc=some (.lst ys)∧ys.length < sizeLine∧N (ys++[y]) (upd H4 acc (.lst (ys++[y]))) else N ys H3)) itv s)
    (hR:∀ (s3:Shared) (H3:Hp) (fp:List Addr) (acc:Addr) (σ':St) (H':Hp) (s':Shared),Inv X pins σ H3 s3→(∀ a∈fp,FpOk X pins H3 a)→Inv (blk X scope N s3 H3 fp pins) [] σ' H' s'→Q (.ref acc) H'→RR (.ref acc) s3.heap.objs.size (.ok .next) s') :
    wpAny (model X.prog X.w) X.A (newList []) (fun acc s₃=>wpAny (model X.prog X.w) X.A (newFunctionEnv scope X.env.globals (closeL X.env.cells scope.names []) [] X.env.qual none .none (some X.env)) (fun cenv s₄=>
      codeAny (model X.prog X.w) X.A (.compStart (.ListComp elt [⟨tg,iter,ifs,0⟩] scope pos) 0 itv acc { cenv with scope:=relabel scope X.env }) (RR acc cenv.locals) s₄) E s₃) E s:=by
  obtain ⟨it,fp,tn,J,H1,rfl,I1,T,st1,f1,hacc⟩:=hp
  refine wpAny_newObj_type ?_
  -- the list
  have I3:Inv X pins σ (upd H1 s.heap.objs.size (.lst [])) { s with heap:=s.heap.push { cls:=.type "list",dict:=none,data:=.seq ([]:List Value).toArray } }:=I1.lnew (ys:=[]) (its:=[]) .nil (Nat.zero_le _)
  generalize hs3:({ s with heap:=s.heap.push { cls:=.type "list",dict:=none,data:=.seq ([]:List Value).toArray } }:Shared)=s3 at I3 ⊢
  have kp3:∀ a o,s.heap.get? a=some o→s3.heap.get? a=some o:=fun a o e=>by rw [← hs3]; exact Heap.get?_push_of_some _ e
  have st3:tn 0 s3.heap:=T.keep _ _ _ st1 fun a _ o e=>kp3 a o e
  have lt1:∀ a∈fp,a < s.heap.objs.size:=fun a ha=>by obtain ⟨o,e,_⟩:=T.obj _ _ st1 a ha; exact Heap.lt_size e
  have f3:∀ a∈fp,FpOk X pins (upd H1 s.heap.objs.size (.lst [])) a:=fun a ha=>⟨by rw [upd_ne (Nat.ne_of_lt (lt1 a ha))]; exact (f1 a ha).1,(f1 a ha).2⟩
  have lt3:∀ a∈fp,a < s3.heap.objs.size:=fun a ha=>by obtain ⟨o,e,_⟩:=T.obj _ _ st3 a ha; exact Heap.lt_size e
  obtain ⟨W,⟨m0,w0⟩,turn⟩:=hacc s.heap.objs.size I1.fresh
  generalize hH3:upd H1 s.heap.objs.size (.lst [])=H3 at I3 f3 w0
  generalize hacc':s.heap.objs.size=acc at w0 turn ⊢
  refine newEnv_blk _ fun cenv hc'=>?_
  subst hc'
  have J0:=blk_start (N:=N) (fp:=fp) b cp I3 f3 lt3
  have st4:tn 0 (pushCells (s3.heap.push { cls:=.type "dict",data:=.dict #[] }) scope.names):=T.keep _ _ _ st3 fun a _ o e=>pushCells_keeps _ _ a o (Heap.get?_push_of_some _ e)
  generalize hs4:({ s3 with heap:=pushCells (s3.heap.push { cls:=.type "dict",data:=.dict #[] }) scope.names }:Shared)=s4 at J0 ⊢
  have st4':tn 0 s4.heap:=by rw [← hs4]; exact st4
  -- the loop
  have loop:codeAny (model X.prog X.w) X.A (.compLoop (.ListComp elt [⟨tg,iter,ifs,0⟩] scope pos) 0 (.ref it) (.ref acc) (blkEnv X.env scope s3.heap.objs.size)) (RR (.ref acc) s3.heap.objs.size) s4:=by
    refine comp_loop (fun n s'=>∃ i ys H',Inv (blk X scope N s3 H3 fp pins) [] (capSt own ix σ) H' s'∧tn i s'.heap∧(∀ a∈fp,H' a=none)∧W i n ys H') ?_ m0 ⟨0,[],H3,J0,st4',fun a ha=>(f3 a ha).1,w0⟩
    rintro n s5 ⟨i,ys,H5,J5,st5,fr5,w5⟩
    have fp5:=blk_fp (pl:=[]) (N:=N) b I3 f3 lt3 fr5
    rcases turn i n ys H5 w5 with ⟨stop,q⟩ | ⟨go,NN,hN,step⟩
    · refine thn (T.done (blk X scope N s3 H3 fp pins) rfl rfl rfl hcalm i [] s5 _ H5 _ J5 fp5 st5 stop) fun r s6 ⟨hr,J6⟩=>?_
      subst hr
      exact hR s3 H3 fp acc _ H5 s6 I3 f3 J6 q
    · refine thn (T.item (blk X scope N s3 H3 fp pins) rfl rfl rfl hcalm i [] s5 _ H5 _ J5 fp5 st5 go) fun r s6 ⟨u,hr,h6⟩=>?_
      subst hr
      refine thn h6 fun _ s7 hh_=>?_
      obtain ⟨x,H7,J7,r7,y7,st7,fr7⟩:=hh_
      have fp7:=blk_fp (pl:=[]) (N:=N) b I3 f3 lt3 fr7
      have J7':=J7.pinned fp7 (T.obj _ _ st7)
      have back:∀ {σ8:St} {H8:Hp} {s8:Shared} {zs:List V},Inv (blk X scope N s3 H3 fp pins) ([]++pinsAt fp s7.heap) σ8 H8 s8→(σ8.length=own + ix.length∧∀ (j:Nat) v,(capSt own ix σ)[j]?=some (some v)→σ8[j]?=some (some v))→NN zs H8→
          ∃ m,m < n∧∃ i ys H',Inv (blk X scope N s3 H3 fp pins) [] (capSt own ix σ) H' s8∧tn i s8.heap∧(∀ a∈fp,H' a=none)∧W i m ys H':=fun {σ8 H8 s8 zs} J8 hw n8=>by
        obtain ⟨m',hm,w8⟩:=hN zs H8 n8
        refine ⟨m',hm,i + 1,zs,H8,(J8.unpinned).weak (by rw [capSt_len,hw.1]) hw.2,T.keep _ _ _ st7 fun a ha o e=>(J8.pin (a,o) (List.mem_append_right _ (List.mem_append_right _ (mem_pinsAt ha e)))).1,fun a ha=>?_,w8⟩
        obtain ⟨o,e,d⟩:=T.obj _ _ st7 a ha
        exact (J8.pin (a,o) (List.mem_append_right _ (List.mem_append_right _ (mem_pinsAt ha e)))).2.1
      refine thn (hg s3 H3 fp pins _ s7 _ H7 x u _ J7' r7 (step x H7 y7)) fun _ s8 hh_=>?_
      obtain ⟨σ8,H8,J8,hw,q8⟩:=hh_
      refine thn (hc s3 H3 fp pins _ s8 σ8 H8 _ J8 q8) fun ok s9 hh_=>?_
      obtain ⟨H9,J9,q9⟩:=hh_
      cases ok with
      | false=>
        rw [if_neg Bool.false_ne_true] at q9 ⊢
        exact back J9 hw q9
      | true=>
        rw [if_pos rfl] at q9 ⊢
        refine thn (he s3 H3 fp pins _ s9 σ8 H9 _ J9 q9) fun y s10 hh_=>?_
        obtain ⟨z,H10,J10,rz,e10,hlt,n10⟩:=hh_
        refine thn (mt_append (X:=blk X scope N s3 H3 fp pins) _ s10 σ8 H10 (.ref acc) [z] (.ref acc) [y] (fun v H'=>v=.non∧H'=upd H10 acc (.lst (ys++[z]))) J10 rfl (.cons rz .nil) ⟨acc,ys,z,rfl,rfl,e10,hlt,rfl,rfl⟩) fun _ s11 hh_=>?_
        obtain ⟨_,H11,J11,_,_,e11⟩:=hh_
        subst e11
        exact back J11 hw n10
  subst hs4
  exact codeAny_compStart_list loop (T.self _ _ _ _ _ st4' loop)
theorem pe_comp (hcalm:X.calm=true) (b:BlkScope X scope) (cp:Caps X scope N own ix) (hi:PI X tg iter wi)
    (hg:∀ s H fp pins,PG (blk X scope N s H fp pins) tg g) (hc:∀ s H fp pins,PIfs (blk X scope N s H fp pins) ifs tc) (he:∀ s H fp pins,PE (blk X scope N s H fp pins) elt te)
    (hnames:∀ y∈scope.names,y.2=.local→scope.names.lookup y.1=some .local:=by decide)
    (hs:∀ x,foldedSetIterable iter X.env x=pure x:=by intro _; rfl):PE X (.ListComp elt [⟨tg,iter,ifs,0⟩] scope pos) (tComp own ix wi g tc te):=by
  intro pins s σ H Q I h
  rw [eval_ListComp]
  refine wpAny_comprehension_free (use:=none) rfl hs (closure_eq (b.cl I.ok)) b.kind hnames (thn (hi pins s σ H _ I h) fun v s1 h1=>thn h1 fun itv s2 h2=>?_)
  refine comp_block (RR:=fun acc C=>compPost (model X.prog X.w) X.A X.xe none (EP X pins σ Q) acc C) hcalm b cp hg hc he h2 ?_
  intro s3 H3 fp acc σ' H' s' I3 f3 J q
  obtain ⟨m,hn,_⟩:=id J.loc
  exact ⟨m,hn,fun h' hs'=>⟨.ref acc,H',blk_exit I3 f3 J hs',rfl,q⟩⟩
theorem ps_setComp {i:Nat} {y:Str} {py spos:Pos} (hcalm:X.calm=true) (hN:X.N.Nodup) (hiN:X.N[i]?=some y) (hx:Loc X.env.scope y) (b:BlkScope X scope) (cp:Caps X scope N own ix) (hi:PI X tg iter wi)
    (hg:∀ s H fp pins,PG (blk X scope N s H fp pins) tg g) (hc:∀ s H fp pins,PIfs (blk X scope N s H fp pins) ifs tc) (he:∀ s H fp pins,PE (blk X scope N s H fp pins) elt te)
    (hsw:swapsWith (.ListComp elt [⟨tg,iter,ifs,0⟩] scope pos) (some (.Name y py)) spos.line X.env=pure true:=by rfl)
    (hnames:∀ y∈scope.names,y.2=.local→scope.names.lookup y.1=some .local:=by decide)
    (hs:∀ x,foldedSetIterable iter X.env x=pure x:=by intro _; rfl)
    (hf:X.fn y=true∨X.env.scope.names.lookup y=some .local:=by first | exact .inl rfl | exact .inr rfl | assumption) :
    PS X (.Assign [.Name y py] (.ListComp elt [⟨tg,iter,ifs,0⟩] scope pos) spos) (tAsg (tComp own ix wi g tc te) (gName i)):=by
  intro pins s σ H D I h
  rw [exec_Assign_Name_used _ _ _ _ hsw]
  refine wpAny_bind (wpAny_standAt (wpAny_bind ?_))
  show wpAny _ X.A (do let _ ← comprehension (.ListComp elt [⟨tg,iter,ifs,0⟩] scope pos) scope X.env _ (newList []) false (eval iter X.env) (some (assign (.Name y py) X.env))) _ _ s
  refine wpAny_bind (wpAny_mono (wpAny_comprehension_free (use:=some (assign (.Name y py) X.env)) (Q:=fun _ s'=>SP X pins D .next s') rfl hs (closure_eq (b.cl I.ok)) b.kind hnames
    (thn (hi pins s σ H _ I h) fun v s1 h1=>thn h1 fun itv s2 h2=>?_)) (fun _ s' hq=>wpAny_pure (wpAny_pure hq)) fun _ _ e=>e)
  refine comp_block (Q:=fun x H1=>gName i x σ H1 D.nx) (RR:=fun acc C=>compPost (model X.prog X.w) X.A X.xe (some (assign (.Name y py) X.env)) (fun _ s'=>SP X pins D .next s') acc C) hcalm b cp hg hc he h2 ?_
  intro s3 H3 fp acc σ' H' s' I3 f3 J q
  obtain ⟨m,hn,_⟩:=id J.loc
  have hn:s'.heap.Ns s3.heap.objs.size m:=hn
  have I':Inv X pins σ H' s':=blk_exit I3 f3 J (Heap.SameBut.refl ..)
  show wpAny _ X.A (assign (.Name y py) X.env (.ref acc)) _ _ s'
  refine wpAny_assign_Name (store_ok2 (v:=.ref acc) I' hN hiN hx rfl (fun s'' I'' hh_=>?_) hf)
  obtain ⟨a,hsb,ha⟩:=hh_
  have hne:s3.heap.objs.size≠a:=by
    rcases ha with ha | ha
    · rw [ha]; exact Nat.ne_of_gt I3.lt
    · obtain ⟨v,z⟩:=I3.cell y a ha
      exact Nat.ne_of_gt z.lt
  refine ⟨m,hn.sameBut hsb hne,fun h' hs'=>?_⟩
  refine ⟨σ.set i (some (.ref acc)),H',?_,q⟩
  exact I''.turned (h':=h') (t':=s''.toks) (it:=s3.heap.objs.size) (fun c o hc e=>(hs'.2 c hc).trans e) J.free (Nat.ne_of_gt I3.lt) (.inr I3.sz) (fun x c e=>by obtain ⟨v,z⟩:=I3.cell x c e; exact Nat.ne_of_lt z.lt) fun p hp=>Nat.ne_of_lt (Heap.lt_size (I3.pin p hp).1)
end
section
variable {κ:Type} [DecidableEq κ]
noncomputable def valV (kvs:List (κ×V)) (k:κ):Option V:=(kvs.find? fun kv=>decide (kv.1=k)).map (·.2)
noncomputable def putK (kvs:List (κ×V)) (k:κ) (v:V):List (κ×V):=
  if (kvs.any fun kv=>decide (kv.1=k))=true then kvs.map (fun kv=>if kv.1=k then (kv.1,v) else kv) else kvs++[(k,v)]
theorem valV_pos {p:κ×V} {r:List (κ×V)} {k:κ} (e:p.1=k):valV (p::r) k=some p.2:=by simp [valV,List.find?_cons,e]
theorem valV_neg {p:κ×V} {r:List (κ×V)} {k:κ} (e:¬ p.1=k):valV (p::r) k=valV r k:=by simp [valV,List.find?_cons,e]
theorem valV_any (k:κ):∀ kvs:List (κ×V),(kvs.any fun kv=>decide (kv.1=k))=(valV kvs k).isSome
  | []=>rfl
  | p::r=>by
    rw [List.any_cons]
    by_cases e:p.1=k
    · simp only [valV_pos e,decide_eq_true e,Bool.true_or,Option.isSome_some]
    · rw [valV_neg e,decide_eq_false e,Bool.false_or]; exact valV_any k r
theorem length_putK (kvs:List (κ×V)) (k:κ) (v:V):(putK kvs k v).length≤kvs.length + 1:=by
  unfold putK
  split
  · rw [List.length_map]; omega
  · rw [List.length_append,List.length_cons,List.length_nil]; omega
theorem RelO.isSome_eq {o:Option V} {u:Option Value} (r:RelO o u):o.isSome=u.isSome:=by
  cases o with
  | none=>cases u with
    | none=>rfl
    | some _=>exact (show False from r).elim
  | some _=>cases u with
    | none=>exact (show False from r).elim
    | some _=>rfl
theorem RelO.getD {o:Option V} {u:Option Value} {d:V} {d':Value} (r:RelO o u) (rd:RelV d d'):RelV (o.getD d) (u.getD d'):=by
  cases o with
  | none=>cases u with
    | none=>exact rd
    | some _=>exact (show False from r).elim
  | some _=>cases u with
    | none=>exact (show False from r).elim
    | some _=>exact r
theorem KV.val {kvs:List (κ×V)} {vs:List (κ×Value)} (r:KV kvs vs) (k:κ):RelO (valV kvs k) (valueAt vs k):=by
  unfold KV at r
  induction r with
  | nil=>exact True.intro
  | @cons p q ps qs h t ih=>
    obtain ⟨h1,h2⟩:=h
    by_cases e:p.1=k
    · have e':q.1=k:=h1.symm.trans e
      have b:valueAt (q::qs) k=some q.2:=by simp [valueAt,List.find?_cons,e']
      rw [valV_pos e,b]; exact h2
    · have e':¬ q.1=k:=fun z=>e (h1.trans z)
      have b:valueAt (q::qs) k=valueAt qs k:=by simp [valueAt,List.find?_cons,e']
      rw [valV_neg e,b]; exact ih
theorem KV.any {kvs:List (κ×V)} {vs:List (κ×Value)} (r:KV kvs vs) (k:κ):(kvs.any fun kv=>decide (kv.1=k))=vs.any fun kv=>decide (kv.1=k):=by
  unfold KV at r
  induction r with
  | nil=>rfl
  | cons h t ih=>rw [List.any_cons,List.any_cons,ih,h.1]
theorem KV.repl {kvs:List (κ×V)} {vs:List (κ×Value)} (r:KV kvs vs) (k:κ) {y:V} {u:Value} (ry:RelV y u) :
    KV (kvs.map fun kv=>if kv.1=k then (kv.1,y) else kv) (vs.map fun kv=>if kv.1=k then (kv.1,u) else kv):=by
  unfold KV at r ⊢
  induction r with
  | nil=>exact .nil
  | @cons p q ps qs h t ih=>
    rw [List.map_cons,List.map_cons]
    refine .cons ?_ ih
    obtain ⟨h1,h2⟩:=h
    by_cases e:p.1=k
    · rw [if_pos e,if_pos (h1.symm.trans e)]; exact ⟨h1,ry⟩
    · rw [if_neg e,if_neg (fun z=>e (h1.trans z))]; exact ⟨h1,h2⟩
theorem KV.put {kvs:List (κ×V)} {vs:List (κ×Value)} (r:KV kvs vs) (k:κ) {y:V} {u:Value} (ry:RelV y u):KV (putK kvs k y) (stored vs k u):=by
  unfold putK stored
  rw [r.any k]
  by_cases e:(vs.any fun kv=>decide (kv.1=k))=true
  · rw [if_pos e,if_pos e]; exact r.repl k ry
  · rw [if_neg e,if_neg e]; exact Paired.snoc r ⟨rfl,ry⟩
theorem KV.length {kvs:List (κ×V)} {vs:List (κ×Value)} (r:KV kvs vs):kvs.length=vs.length:=Paired.length r
end
theorem kV_is {P:Program} {w:World} {k:Key} {u:Value} (r:RelV (kV k) u):(mixKind P w).is k u=true:=by
  cases k with
  | inl i=>obtain ⟨t,e⟩:=(show ∃ t,u=Value.int i t from r); subst e; exact mixKind_int P w i t
  | inr x=>obtain ⟨t,e⟩:=(show ∃ t,u=Value.str x t from r); subst e; exact mixKind_str P w x t
theorem items_are {P:Program} {w:World}:∀ {ks:List Key} {us:List Value},Vals (ks.map kV) us→ItemsAre (mixKind P w) ks us
  | [],_,r=>by rw [List.map_nil] at r; cases r; exact .nil
  | k::ks,_,r=>by
    rw [List.map_cons] at r
    cases r with
    | cons h t=>exact .cons (kV_is h) (items_are t)
noncomputable abbrev KT (H:Hp):List (List Key×V)→List (List Key×Addr×Value)→Prop:=Paired fun p q=>p.1=q.1∧H q.2.1=some (.tup (p.1.map kV))∧RelV p.2 q.2.2
theorem KT.val {H:Hp} {kvs:List (List Key×V)} {xs:List (List Key×Addr×Value)} (r:KT H kvs xs) (k:List Key):RelO (valV kvs k) ((atKey xs k).map (·.2)):=by
  induction r with
  | nil=>exact True.intro
  | @cons p q ps qs h t ih=>
    obtain ⟨h1,_,h2⟩:=h
    by_cases e:p.1=k
    · have e':q.1=k:=h1.symm.trans e
      have b:atKey (q::qs) k=some q.2:=by simp [atKey,List.find?_cons,e']
      rw [valV_pos e,b]; exact h2
    · have e':¬ q.1=k:=fun z=>e (h1.trans z)
      have b:atKey (q::qs) k=atKey qs k:=by simp [atKey,List.find?_cons,e']
      rw [valV_neg e,b]; exact ih
theorem KT.repl {H:Hp} {kvs:List (List Key×V)} {xs:List (List Key×Addr×Value)} (r:KT H kvs xs) (k:List Key) {y:V} {u:Value} (ry:RelV y u) :
    KT H (kvs.map fun kv=>if kv.1=k then (kv.1,y) else kv) (xs.map (putAt k u)):=by
  induction r with
  | nil=>exact .nil
  | @cons p q ps qs h t ih=>
    rw [List.map_cons,List.map_cons]
    refine .cons ?_ ih
    obtain ⟨h1,h2,h3⟩:=h
    unfold putAt
    by_cases e:p.1=k
    · rw [if_pos e,if_pos (h1.symm.trans e)]; exact ⟨h1,h2,ry⟩
    · rw [if_neg e,if_neg (fun z=>e (h1.trans z))]; exact ⟨h1,h2,h3⟩
theorem KT.put {H:Hp} {kvs:List (List Key×V)} {xs:List (List Key×Addr×Value)} (r:KT H kvs xs) (k:List Key) {b:Addr} {y:V} {u:Value} (hb:H b=some (.tup (k.map kV))) (ry:RelV y u) :
    KT H (putK kvs k y) (storedH xs k b u):=by
  have e:(kvs.any fun kv=>decide (kv.1=k))=(atKey xs k).isSome:=by
    rw [valV_any,(r.val k).isSome_eq,Option.isSome_map]
  unfold putK storedH
  rw [e]
  by_cases q:(atKey xs k).isSome=true
  · rw [if_pos q,if_pos q]; exact r.repl k ry
  · rw [if_neg q,if_neg q]; exact Paired.snoc r ⟨rfl,hb,ry⟩
theorem KT.keeps {H H':Hp} {kvs:List (List Key×V)} {xs:List (List Key×Addr×Value)} (r:KT H kvs xs) (ht:∀ b ys,H b=some (.tup ys)→H' b=some (.tup ys)):KT H' kvs xs:=
  Paired.mapP r fun _ _ z=>⟨z.1,ht _ _ z.2.1,z.2.2⟩
section
variable {P:Program} {w:World} {H:Hp} {h:Heap} {a:Addr}
theorem rd_of {u:HO} (ok:HOk P w H h) (e:Rd H a u):ObjOk P w H h a u:=e.ok ok
theorem dk_rd {kvs:List (Key×V)} (ok:HOk P w H h) (e:Rd H a (.dK kvs)):kvs.length≤sizeLine∧(a == sysModules)=false∧∃ vs,KV kvs vs∧h.DictOf (mixKind P w) a vs:=
  show ObjOk P w H h a (.dK kvs) from rd_of ok e
theorem dk_of {kvs:List (Key×V)} (ok:HOk P w H h) (e:H a=some (.dK kvs)):kvs.length≤sizeLine∧(a == sysModules)=false∧∃ vs,KV kvs vs∧h.DictOf (mixKind P w) a vs:=dk_rd ok (.inl e)
theorem key_of {ks:List Key} (ok:HOk P w H h) (e:H a=some (.tup (ks.map kV))):(tupleKind (mixKind P w)).is h ks a:=by
  obtain ⟨_,its,r,⟨o,h1,h2,n,h3⟩,_⟩:=(show ObjOk P w H h a (.tup (ks.map kV)) from ok a _ e)
  exact ⟨o,its.toArray,n,h1,h2,h3,by simpa using items_are r⟩
theorem dt_rd {kvs:List (List Key×V)} (ok:HOk P w H h) (e:Rd H a (.dT kvs)):kvs.length≤sizeLine∧(a == sysModules)=false ∧
    ∃ xs,KT H kvs xs∧h.DictOfH (tupleKind (mixKind P w)) a xs:=by
  obtain ⟨z,y,xs,r,o,es,ep,h1,h2,h3,h4,h5⟩:=(show ObjOk P w H h a (.dT kvs) from rd_of ok e)
  refine ⟨z,y,xs,r,o,es,ep,h1,h2,h3,h4,fun x hx=>?_,h5⟩
  have all:∀ {l:List (List Key×V)} {m:List (List Key×Addr×Value)},KT H l m→∀ x∈m,(tupleKind (mixKind P w)).is h x.1 x.2.1:=by
    intro l m q
    induction q with
    | nil=>intro x hx; exact nomatch hx
    | @cons p q ps qs hq t ih=>
      intro x hx
      rcases List.mem_cons.mp hx with e | hx
      · subst e
        exact key_of ok (by rw [← hq.1]; exact hq.2.1)
      · exact ih x hx
  exact all r x hx
theorem dt_of {kvs:List (List Key×V)} (ok:HOk P w H h) (e:H a=some (.dT kvs)):kvs.length≤sizeLine∧(a == sysModules)=false ∧
    ∃ xs,KT H kvs xs∧h.DictOfH (tupleKind (mixKind P w)) a xs:=dt_rd ok (.inl e)
end
noncomputable def DGet (H:Hp) (a:Addr) (y:V) (r:Option V):Prop:=
  (∃ kvs k,Rd H a (.dK kvs)∧y=kV k∧r=valV kvs k)∨∃ kvs k b,Rd H a (.dT kvs)∧y=.ref b∧H b=some (.tup (k.map kV))∧r=valV kvs k
noncomputable def DPut (H:Hp) (a:Addr) (y v:V) (H':Hp):Prop:=
  (∃ kvs k,H a=some (.dK kvs)∧y=kV k∧kvs.length < sizeLine∧H'=upd H a (.dK (putK kvs k v))) ∨
  ∃ kvs k b,H a=some (.dT kvs)∧y=.ref b∧H b=some (.tup (k.map kV))∧kvs.length < sizeLine∧H'=upd H a (.dT (putK kvs k v))
theorem DGet.t {H:Hp} {a b:Addr} {kvs:List (List Key×V)} {k:List Key} (e:H a=some (.dT kvs)) (eb:H b=some (.tup (k.map kV))):DGet H a (.ref b) (valV kvs k):=.inr ⟨kvs,k,b,.inl e,rfl,eb,rfl⟩
theorem DPut.t {H:Hp} {a b:Addr} {kvs:List (List Key×V)} {k:List Key} {v:V} (e:H a=some (.dT kvs)) (eb:H b=some (.tup (k.map kV))) (hl:kvs.length < sizeLine) :
    DPut H a (.ref b) v (upd H a (.dT (putK kvs k v))):=.inr ⟨kvs,k,b,e,rfl,eb,hl,rfl⟩
section
variable {X:Cx} {pins:List (Addr×Obj)} {σ:St} {H:Hp} {s:Shared} {a:Addr} {y v:V} {u r:Value} {o:Option V} {A:Around} {E:Value→Shared→Prop}
theorem Inv.big (I:Inv X pins σ H s):sysModules < s.heap.objs.size:=by
  have h:mainGlobals < s.heap.objs.size:=(I.mod.glob.keeps I.bk).lt
  exact Nat.lt_trans (by decide) h
theorem d_write {h':Heap} {t':Nat} {ob:HO} (I:Inv X pins σ H s) (mu:Mut (H a)) (hs:Heap.SameBut a s.heap h') (he:∃ q,h'.get? a=some q) (new:ObjOk X.prog X.w (upd H a ob) h' a ob) :
    Inv X pins σ (upd H a ob) { s with heap:=h',toks:=t' }:=
  I.write (x:=a) (e:=a) mu (.inl rfl) (fun b q hb z=>(hs.2 b hb).trans z) he new
theorem dk_new {P:Program} {w:World} {H':Hp} {h':Heap} {kvs:List (Key×V)} {vs:List (Key×Value)} (z:kvs.length≤sizeLine) (hd:(a == sysModules)=false) (rel:KV kvs vs) (dd:h'.DictOf (mixKind P w) a vs) :
    ObjOk P w H' h' a (.dK kvs):=⟨z,hd,vs,rel,dd⟩
theorem d_setItem {H':Hp} {Q:Unit→Shared→Prop} (hu:A.units + 1 < cLine) (I:Inv X pins σ H s) (g:DPut H a y v H') (ry:RelV y u) (rv:RelV v r) (h:∀ s',Inv X pins σ H' s'→Q () s') :
    wpAny (model X.prog X.w) A (setItem (.ref a) u r) Q E s:=by
  rcases g with ⟨kvs,k,e,ey,l,eH⟩ | ⟨kvs,k,b,e,ey,eb,l,eH⟩
  · subst ey eH
    obtain ⟨z,hd,vs,rel,dd⟩:=dk_of I.hok e
    have hz:vs.length≤sizeLine:=by rw [← rel.length]; exact z
    have hl:(putK kvs k v).length≤sizeLine:=by have:=length_putK kvs k v; omega
    refine wpAny_setItem_pairs (hsz:=hz) (kV_is ry) dd fun h' dd' hs=>h _ ?_
    have he:∃ q,h'.get? a=some q:=let ⟨q,_,_,hq,_⟩:=dd'; ⟨q,hq⟩
    exact d_write I (by rw [e]; exact True.intro) hs he (dk_new hl hd (rel.put k rv) dd')
  · subst ey eH
    cases (show u=Value.ref b from ry)
    obtain ⟨z,hd,xs,rel,dd⟩:=dt_of I.hok e
    have hz:xs.length≤sizeLine:=by rw [← Paired.length rel]; exact z
    have hl:(putK kvs k v).length≤sizeLine:=by have:=length_putK kvs k v; omega
    refine wpAny_setItem_heap (hsz:=hz) (tupleKind_room_in1 hu) (key_of I.hok eb) dd fun h' dd' hs=>h _ ?_
    obtain ⟨q,es,ep,hq,h2,h3,h4,_,h5⟩:=dd'
    refine d_write I (by rw [e]; exact True.intro) hs ⟨q,hq⟩ ⟨hl,hd,_,(rel.put k eb rv).keeps fun c ys ec=>?_,q,es,ep,hq,h2,h3,h4,h5⟩
    rw [upd_ne (ne_of ec e (fun z=>nomatch z))]
    exact ec
end
section
variable {X:Cx} {pins:List (Addr×Obj)} {σ:St} {H:Hp} {s:Shared} {a:Addr} {kvs:List (Key×V)} {k:Key} {u:Value} {A:Around} {E:Value→Shared→Prop}
end
noncomputable def sDPut (td ty tv:TE):TS:=fun D σ H=>tv σ H fun v H1=>td σ H1 fun x H2=>ty σ H2 fun y H3=>∃ a H4,x=.ref a∧DPut H3 a y v H4∧D.nx σ H4
section
variable {X:Cx} {o i e value:Expr} {pos pos' tpos:Pos} {td ty tv:TE}
theorem ps_dput (hu:X.A.units + 1 < cLine) (ho:PE X o td) (hi:PE X i ty) (hv:PE X value tv) (hs:swapsWith value (some (.Subscript o i pos')) pos.line X.env=pure false) :
    PS X (.Assign [.Subscript o i pos'] value pos) (sDPut td ty tv):=by
  intro pins s σ H D I h
  refine wpAny_Assign_Subscript (thnG (hv pins s σ H _ I h) fun r s1 v H1 I1 rv q1=>thnG (ho pins s1 σ H1 _ I1 q1) fun u s2 x H2 I2 rx q2=>thnG (hi pins s2 σ H2 _ I2 q2) fun iv s3 y H3 I3 ry hh_=>?_) hs
  obtain ⟨a,H4,ex,g,q3⟩:=hh_
  subst ex
  obtain rfl:u=Value.ref a:=rx
  exact d_setItem hu I3 g ry rv fun s4 I4=>⟨σ,H4,I4,q3⟩
end
theorem dt_empty {P:Program} {w:World} {H:Hp} (h:Heap) (hb:sysModules < h.objs.size):ObjOk P w H (h.push { cls:=.type "dict",data:=.dict #[] }) h.objs.size (.dT []):=
  ⟨Nat.zero_le _,beq_eq_false_iff_ne.mpr (Ne.symm (Nat.ne_of_lt hb)),[],.nil,_,#[],0,Heap.get?_push_size _ rfl,⟨rfl,rfl,rfl⟩,rfl,rfl,List.nodup_nil⟩
noncomputable def tDNewT:TE:=fun _ H Q=>∀ p,H p=none→Q (.ref p) (upd H p (.dT []))
section
variable {X:Cx} {pos:Pos}
theorem pe_dnewT:PE X (.Dict [] [] pos) tDNewT:=fun pins s σ H Q I h=>
  wpAny_Dict_empty ⟨.ref s.heap.objs.size,_,I.laid (a:=s.heap.objs.size) (o:=.dT []) (t':=s.toks) (fun _ _ q=>Heap.get?_push_of_some _ q) (Nat.le_refl _) (dt_empty s.heap I.big),rfl,h _ (I.hok.fresh (Nat.le_refl _))⟩
end
structure M2 (X:Cx) (o:Expr) (m:Str) (apos:Pos) (e f:Expr) (cpos:Pos):Prop where
  base:attributeBase o m X.env (eval o X.env)=eval o X.env
  few:((backTo cpos (starEach [e,f] X.env)).all (fun x=>!x.1)&&(backToKw cpos (keywordEach [] X.env)).all (fun x=>x.1.isSome)
    && decide (([e,f]:List Expr).length + ([]:List Keyword).length + (if ([]:List Keyword).isEmpty then 0 else 1) < 30))=true
  line:(apos.endLine == cpos.line)=true
  trees:backTo cpos (starEach [e,f] X.env)=[(false,eval e X.env),(false,eval f X.env)]
noncomputable def IsD (H:Hp) (a:Addr):Prop:=(∃ kvs,Rd H a (.dK kvs))∨∃ kvs,Rd H a (.dT kvs)
theorem isD_at {X:Cx} {pins:List (Addr×Obj)} {σ:St} {H:Hp} {s:Shared} {a:Addr} (I:Inv X pins σ H s) (d:IsD H a) :
    s.TypeIs (.ref a) "dict"∧(∀ b,Value.ref a=.ref b→∃ ob,s.heap.get? b=some ob∧ob.dict=none)∧(a == sysModules)=false:=by
  rcases d with ⟨kvs,e⟩ | ⟨kvs,e⟩
  · obtain ⟨_,hd,vs,_,dd⟩:=dk_rd I.hok e
    refine ⟨dd.typeIs,fun b q=>?_,hd⟩
    cases q
    obtain ⟨ob,_,_,h1,h2,_⟩:=dd
    exact ⟨ob,h1,h2.2.1⟩
  · obtain ⟨_,hd,xs,_,dd⟩:=dt_rd I.hok e
    refine ⟨dd.typeIs,fun b q=>?_,hd⟩
    cases q
    obtain ⟨ob,_,_,h1,h2,_⟩:=dd
    exact ⟨ob,h1,h2.2.1⟩
section
variable {X:Cx} {pins:List (Addr×Obj)} {σ:St} {H:Hp} {s:Shared} {a:Addr} {y d:V} {u r:Value} {o:Option V} {A:Around} {E:Value→Shared→Prop}
theorem d_get2 {Q:Value→Shared→Prop} (hu:A.units + 1 < cLine) (I:Inv X pins σ H s) (g:DGet H a y o) (ry:RelV y u) (rd:RelV d r) (h:∀ w' s',Inv X pins σ H s'→RelV (o.getD d) w'→Q w' s') :
    wpAny (model X.prog X.w) A (call (.builtin "dict.get") [.ref a,u,r]) Q E s:=by
  rcases g with ⟨kvs,k,e,ey,l⟩ | ⟨kvs,k,b,e,ey,eb,l⟩
  · subst ey
    obtain ⟨z,hd,vs,rel,dd⟩:=dk_rd I.hok e
    refine call_meetsIn PySem.F.slot_dict_get dd.typeIs PySem.F.entry_dict_get (PySem.F.args_dict_get_3 _ _ _) (meets_dict_get_default (mixKind X.prog X.w) a (kV_is ry) hd r) ⟨_,dd.mapOf,h _ _ (I.tok _) ?_⟩
    rw [l]
    exact (rel.val k).getD rd
  · subst ey
    cases (show u=Value.ref b from ry)
    obtain ⟨z,hd,xs,rel,dd⟩:=dt_rd I.hok e
    refine call_meetsIn PySem.F.slot_dict_get dd.typeIs PySem.F.entry_dict_get (PySem.F.args_dict_get_3 _ _ _) (meetsH_dict_get_default (tupleKind (mixKind X.prog X.w)) a b hd r) ⟨tupleKind_room_in1 hu,k,xs,key_of I.hok eb,dd,h _ _ (I.tok _) ?_⟩
    rw [l]
    exact (rel.val k).getD rd
end
noncomputable def tDGet2 (td ty tx:TE):TE:=fun σ H Q=>td σ H fun x H1=>∃ a,x=.ref a∧IsD H1 a∧ty σ H1 fun y H2=>tx σ H2 fun z H3=>∃ o,DGet H3 a y o∧Q (o.getD z) H3
section
variable {X:Cx} {o e f:Expr} {apos cpos:Pos} {td ty tx:TE}
theorem pe_dget2 (hu:X.A.units + 1 < cLine) (ho:PE X o td) (he:PE X e ty) (hf:PE X f tx) (m:M2 X o "get" apos e f cpos):PE X (.Call (.Attribute o "get" apos) [e,f] [] cpos) (tDGet2 td ty tx):=by
  intro pins s σ H Q I h
  refine wpAny_Call_method m.base m.few m.line PySem.F.plainAttrs_dict PySem.F.slot_dict_get PySem.F.type_dict_get (thnG (ho pins s σ H _ I h) fun u s1 x H1 I1 rx hh_=>?_)
  obtain ⟨a,ex,d,q1⟩:=hh_
  subst ex
  obtain rfl:u=Value.ref a:=rx
  obtain ⟨t1,t2,_⟩:=isD_at I1 d
  refine ⟨t1,t2,?_⟩
  rw [m.trees]
  refine Calls.callWith_builtin rfl (Calls.evalArgs_plain (Calls.spliced_cons (thnG (he pins s1 σ H1 _ I1 q1) fun iv s2 y H2 I2 ry q2=>
    Calls.spliced_cons (thnG (hf pins s2 σ H2 _ I2 q2) fun fv s3 z H3 I3 rz ⟨ov,g,q3⟩=>Calls.spliced_nil ?_))))
  exact d_get2 hu I3 g ry rz fun w' s4 I4 rw'=>⟨_,H3,I4,rw',q3⟩
end
section
variable {X:Cx} {pins:List (Addr×Obj)} {σ:St} {H:Hp} {s:Shared} {a:Addr} {kvs:List (Key×V)} {A:Around} {E:Value→Shared→Prop}
end
section
variable {X:Cx} {pins:List (Addr×Obj)} {σ:St} {H:Hp} {s:Shared} {a:Addr} {y:V} {u:Value} {A:Around} {E:Value→Shared→Prop}
end
section
variable {κ:Type} [DecidableEq κ]
end
inductive D where
  | non | bl (b:Bool) | int (i:Int) | str (x:Str)
  | tup (xs:List D) | lst (xs:List D)
  | dT (kvs:List (List Key×D)) | dK (kvs:List (Key×D))
  | ins (C:Addr) (fs:List (Str×D))
mutual
inductive Rep (K:PySem.W.Frag) (H:Hp):V→D→Prop
  | non:Rep K H .non .non
  | bl {b:Bool}:Rep K H (.bl b) (.bl b)
  | int {i:Int}:Rep K H (.int i) (.int i)
  | str {x:Str}:Rep K H (.str x) (.str x)
  | tup {a:Addr} {vs:List V} {ds:List D}:H a=some (.tup vs)→Reps K H vs ds→Rep K H (.ref a) (.tup ds)
  | lst {a:Addr} {vs:List V} {ds:List D}:SqL K H a vs→Reps K H vs ds→Rep K H (.ref a) (.lst ds)
  | dT {a:Addr} {vs:List (List Key×V)} {ds:List (List Key×D)}:H a=some (.dT vs)→RepsT K H vs ds→Rep K H (.ref a) (.dT ds)
  | dK {a:Addr} {vs:List (Key×V)} {ds:List (Key×D)}:H a=some (.dK vs)→RepsK K H vs ds→Rep K H (.ref a) (.dK ds)
  | ins {a C dx:Addr} {vs:List (Str×V)} {ds:List (Str×D)}:H a=some (.ins C dx vs)→RepsF K H vs ds→Rep K H (.ref a) (.ins C ds)
inductive Reps (K:PySem.W.Frag) (H:Hp):List V→List D→Prop
  | nil:Reps K H [] []
  | cons {v:V} {d:D} {vs:List V} {ds:List D}:Rep K H v d→Reps K H vs ds→Reps K H (v::vs) (d::ds)
inductive RepsT (K:PySem.W.Frag) (H:Hp):List (List Key×V)→List (List Key×D)→Prop
  | nil:RepsT K H [] []
  | cons {k:List Key} {v:V} {d:D} {vs:List (List Key×V)} {ds:List (List Key×D)}:Rep K H v d→RepsT K H vs ds→RepsT K H ((k,v)::vs) ((k,d)::ds)
inductive RepsK (K:PySem.W.Frag) (H:Hp):List (Key×V)→List (Key×D)→Prop
  | nil:RepsK K H [] []
  | cons {k:Key} {v:V} {d:D} {vs:List (Key×V)} {ds:List (Key×D)}:Rep K H v d→RepsK K H vs ds→RepsK K H ((k,v)::vs) ((k,d)::ds)
inductive RepsF (K:PySem.W.Frag) (H:Hp):List (Str×V)→List (Str×D)→Prop
  | nil:RepsF K H [] []
  | cons {k:Str} {v:V} {d:D} {vs:List (Str×V)} {ds:List (Str×D)}:Rep K H v d→RepsF K H vs ds→RepsF K H ((k,v)::vs) ((k,d)::ds)
end
section
variable {K:PySem.W.Frag} {H H':Hp}
theorem Rep.same (e:Same H H') {v:V} {d:D} (h:Rep K H v d):Rep K H' v d:=
  Rep.rec (motive_1:=fun v d _=>Rep K H' v d) (motive_2:=fun v d _=>Reps K H' v d) (motive_3:=fun v d _=>RepsT K H' v d) (motive_4:=fun v d _=>RepsK K H' v d) (motive_5:=fun v d _=>RepsF K H' v d) .non .bl .int .str (fun h _ i=>.tup (e _ _ h) i) (fun h _ i=>.lst (e.seq h) i) (fun h _ i=>.dT (e _ _ h) i) (fun h _ i=>.dK (e _ _ h) i) (fun h _ i=>.ins (e _ _ h) i) .nil (fun _ _ a b=>.cons a b) .nil (fun _ _ a b=>.cons a b) .nil (fun _ _ a b=>.cons a b) .nil (fun _ _ a b=>.cons a b) h
theorem Reps.same (e:Same H H') {v:List V} {d:List D} (h:Reps K H v d):Reps K H' v d:=
  Reps.rec (motive_1:=fun v d _=>Rep K H' v d) (motive_2:=fun v d _=>Reps K H' v d) (motive_3:=fun v d _=>RepsT K H' v d) (motive_4:=fun v d _=>RepsK K H' v d) (motive_5:=fun v d _=>RepsF K H' v d) .non .bl .int .str (fun h _ i=>.tup (e _ _ h) i) (fun h _ i=>.lst (e.seq h) i) (fun h _ i=>.dT (e _ _ h) i) (fun h _ i=>.dK (e _ _ h) i) (fun h _ i=>.ins (e _ _ h) i) .nil (fun _ _ a b=>.cons a b) .nil (fun _ _ a b=>.cons a b) .nil (fun _ _ a b=>.cons a b) .nil (fun _ _ a b=>.cons a b) h
theorem RepsT.same (e:Same H H') {v:List (List Key×V)} {d:List (List Key×D)} (h:RepsT K H v d):RepsT K H' v d:=
  RepsT.rec (motive_1:=fun v d _=>Rep K H' v d) (motive_2:=fun v d _=>Reps K H' v d) (motive_3:=fun v d _=>RepsT K H' v d) (motive_4:=fun v d _=>RepsK K H' v d) (motive_5:=fun v d _=>RepsF K H' v d) .non .bl .int .str (fun h _ i=>.tup (e _ _ h) i) (fun h _ i=>.lst (e.seq h) i) (fun h _ i=>.dT (e _ _ h) i) (fun h _ i=>.dK (e _ _ h) i) (fun h _ i=>.ins (e _ _ h) i) .nil (fun _ _ a b=>.cons a b) .nil (fun _ _ a b=>.cons a b) .nil (fun _ _ a b=>.cons a b) .nil (fun _ _ a b=>.cons a b) h
theorem RepsK.same (e:Same H H') {v:List (Key×V)} {d:List (Key×D)} (h:RepsK K H v d):RepsK K H' v d:=
  RepsK.rec (motive_1:=fun v d _=>Rep K H' v d) (motive_2:=fun v d _=>Reps K H' v d) (motive_3:=fun v d _=>RepsT K H' v d) (motive_4:=fun v d _=>RepsK K H' v d) (motive_5:=fun v d _=>RepsF K H' v d) .non .bl .int .str (fun h _ i=>.tup (e _ _ h) i) (fun h _ i=>.lst (e.seq h) i) (fun h _ i=>.dT (e _ _ h) i) (fun h _ i=>.dK (e _ _ h) i) (fun h _ i=>.ins (e _ _ h) i) .nil (fun _ _ a b=>.cons a b) .nil (fun _ _ a b=>.cons a b) .nil (fun _ _ a b=>.cons a b) .nil (fun _ _ a b=>.cons a b) h
theorem RepsF.same (e:Same H H') {v:List (Str×V)} {d:List (Str×D)} (h:RepsF K H v d):RepsF K H' v d:=
  RepsF.rec (motive_1:=fun v d _=>Rep K H' v d) (motive_2:=fun v d _=>Reps K H' v d) (motive_3:=fun v d _=>RepsT K H' v d) (motive_4:=fun v d _=>RepsK K H' v d) (motive_5:=fun v d _=>RepsF K H' v d) .non .bl .int .str (fun h _ i=>.tup (e _ _ h) i) (fun h _ i=>.lst (e.seq h) i) (fun h _ i=>.dT (e _ _ h) i) (fun h _ i=>.dK (e _ _ h) i) (fun h _ i=>.ins (e _ _ h) i) .nil (fun _ _ a b=>.cons a b) .nil (fun _ _ a b=>.cons a b) .nil (fun _ _ a b=>.cons a b) .nil (fun _ _ a b=>.cons a b) h
end
section
variable {K:PySem.W.Frag} {H H':Hp}
theorem Reps.ind {M:List V→List D→Prop} (n:M [] []) (c:∀ {v:V} {d:D} {vs:List V} {ds:List D},Rep K H v d→Reps K H vs ds→M vs ds→M (v::vs) (d::ds)) {vs:List V} {ds:List D} (h:Reps K H vs ds):M vs ds:=
  Reps.rec (motive_1:=fun _ _ _=>True) (motive_2:=fun vs ds _=>M vs ds) (motive_3:=fun _ _ _=>True) (motive_4:=fun _ _ _=>True) (motive_5:=fun _ _ _=>True) trivial trivial trivial trivial (fun _ _ _=>trivial) (fun _ _ _=>trivial) (fun _ _ _=>trivial) (fun _ _ _=>trivial) (fun _ _ _=>trivial) n (fun h q _ ih=>c h q ih) trivial (fun _ _ _ _=>trivial) trivial (fun _ _ _ _=>trivial) trivial (fun _ _ _ _=>trivial) h
theorem RepsT.ind {M:List (List Key×V)→List (List Key×D)→Prop} (n:M [] []) (c:∀ {k:List Key} {v:V} {d:D} {vs:List (List Key×V)} {ds:List (List Key×D)},Rep K H v d→RepsT K H vs ds→M vs ds→M ((k,v)::vs) ((k,d)::ds)) {vs:List (List Key×V)} {ds:List (List Key×D)} (h:RepsT K H vs ds):M vs ds:=
  RepsT.rec (motive_1:=fun _ _ _=>True) (motive_2:=fun _ _ _=>True) (motive_3:=fun vs ds _=>M vs ds) (motive_4:=fun _ _ _=>True) (motive_5:=fun _ _ _=>True) trivial trivial trivial trivial (fun _ _ _=>trivial) (fun _ _ _=>trivial) (fun _ _ _=>trivial) (fun _ _ _=>trivial) (fun _ _ _=>trivial) trivial (fun _ _ _ _=>trivial) n (fun h q _ ih=>c h q ih) trivial (fun _ _ _ _=>trivial) trivial (fun _ _ _ _=>trivial) h
theorem RepsF.ind {M:List (Str×V)→List (Str×D)→Prop} (n:M [] []) (c:∀ {k:Str} {v:V} {d:D} {vs:List (Str×V)} {ds:List (Str×D)},Rep K H v d→RepsF K H vs ds→M vs ds→M ((k,v)::vs) ((k,d)::ds)) {vs:List (Str×V)} {ds:List (Str×D)} (h:RepsF K H vs ds):M vs ds:=
  RepsF.rec (motive_1:=fun _ _ _=>True) (motive_2:=fun _ _ _=>True) (motive_3:=fun _ _ _=>True) (motive_4:=fun _ _ _=>True) (motive_5:=fun vs ds _=>M vs ds) trivial trivial trivial trivial (fun _ _ _=>trivial) (fun _ _ _=>trivial) (fun _ _ _=>trivial) (fun _ _ _=>trivial) (fun _ _ _=>trivial) trivial (fun _ _ _ _=>trivial) trivial (fun _ _ _ _=>trivial) trivial (fun _ _ _ _=>trivial) n (fun h q _ ih=>c h q ih) h
theorem Reps.length {vs:List V} {ds:List D} (h:Reps K H vs ds):vs.length=ds.length:=Reps.ind (M:=fun vs ds=>vs.length=ds.length) rfl (fun _ _ ih=>congrArg Nat.succ ih) h
theorem Reps.get {vs:List V} {ds:List D} {i:Nat} {d:D} (h:Reps K H vs ds):ds[i]?=some d→∃ v,vs[i]?=some v∧Rep K H v d:=
  Reps.ind (M:=fun vs ds=>∀ i:Nat,ds[i]?=some d→∃ v,vs[i]?=some v∧Rep K H v d) (fun _ e=>nomatch e) (fun r _ ih i e=>by
    cases i with
    | zero=>obtain rfl:=Option.some.inj e; exact ⟨_,rfl,r⟩
    | succ i=>exact ih i e) h i
theorem Reps.getV {vs:List V} {ds:List D} {i:Nat} {v:V} (h:Reps K H vs ds):vs[i]?=some v→∃ d,ds[i]?=some d∧Rep K H v d:=
  Reps.ind (M:=fun vs ds=>∀ i:Nat,vs[i]?=some v→∃ d,ds[i]?=some d∧Rep K H v d) (fun _ e=>nomatch e) (fun r _ ih i e=>by
    cases i with
    | zero=>obtain rfl:=Option.some.inj e; exact ⟨_,rfl,r⟩
    | succ i=>exact ih i e) h i
theorem Reps.append {vs ws:List V} {ds es:List D} (h:Reps K H vs ds) (s:Reps K H ws es):Reps K H (vs++ws) (ds++es):=Reps.ind (M:=fun vs ds=>Reps K H (vs++ws) (ds++es)) s (fun r _ ih=>.cons r ih) h
theorem Reps.take {vs:List V} {ds:List D} (n:Nat) (h:Reps K H vs ds):Reps K H (vs.take n) (ds.take n):=Reps.ind (M:=fun vs ds=>∀ n,Reps K H (vs.take n) (ds.take n)) (fun n=>by cases n <;> exact .nil) (fun r _ ih n=>by
    cases n with
    | zero=>exact .nil
    | succ n=>exact .cons r (ih n)) h n
theorem Reps.drop {vs:List V} {ds:List D} (n:Nat) (h:Reps K H vs ds):Reps K H (vs.drop n) (ds.drop n):=Reps.ind (M:=fun vs ds=>∀ n,Reps K H (vs.drop n) (ds.drop n)) (fun n=>by cases n <;> exact .nil) (fun r q ih n=>by
    cases n with
    | zero=>exact .cons r q
    | succ n=>exact ih n) h n
theorem Reps.set {v:V} {d:D} (r:Rep K H v d) {vs:List V} {ds:List D} (i:Nat) (h:Reps K H vs ds):Reps K H (vs.set i v) (ds.set i d):=Reps.ind (M:=fun vs ds=>∀ i,Reps K H (vs.set i v) (ds.set i d)) (fun _=>.nil) (fun q t ih i=>by
    cases i with
    | zero=>exact .cons r t
    | succ i=>exact .cons q (ih i)) h i
theorem Reps.one {v:V} {d:D} (r:Rep K H v d):Reps K H [v] [d]:=.cons r .nil
end
inductive OD where
  | lst (ds:List D) | lst2 (dss:List (List D)) | tup2 (dss:List (List D)) | dT (kvs:List (List Key×D)) | dK (kvs:List (Key×D)) | ins (C:Addr) (fs:List (Str×D))
noncomputable def OD.d:OD→D
  | .lst ds=>.lst ds
  | .lst2 dss=>.lst (dss.map .lst)
  | .tup2 dss=>.tup (dss.map .lst)
  | .dT kvs=>.dT kvs
  | .dK kvs=>.dK kvs
  | .ins C fs=>.ins C fs
noncomputable def OD.flat:OD→Bool
  | .lst2 _=>false
  | .tup2 _=>false
  | _=>true
inductive All2 {α β:Type} (R:α→β→Prop):List α→List β→Prop
  | nil:All2 R [] []
  | cons {a:α} {b:β} {as:List α} {bs:List β}:R a b→All2 R as bs→All2 R (a::as) (b::bs)
theorem All2.imp {α β:Type} {R S:α→β→Prop} (f:∀ a b,R a b→S a b) {as:List α} {bs:List β} (h:All2 R as bs):All2 S as bs:=by
  induction h with
  | nil=>exact .nil
  | cons h _ ih=>exact .cons (f _ _ h) ih
noncomputable def ORep1 (K:PySem.W.Frag) (F:Hp):OD→HO→Prop
  | .lst ds,.lst vs=>Reps K F vs ds
  | .dT ds,.dT vs=>RepsT K F vs ds
  | .dK ds,.dK vs=>RepsK K F vs ds
  | .ins C fs,.ins C' _ vs=>C=C'∧RepsF K F vs fs
  | _,_=>False
noncomputable def ORep (K:PySem.W.Frag) (F H:Hp) (ow:Addr→Prop):OD→Addr→Prop
  | .lst2 dss,a=>ow a∧∃ bs,H a=some (.lst (bs.map .ref))∧(a::bs).Nodup∧All2 (fun b ds=>ow b∧∃ u,H b=some u∧ORep1 K F (.lst ds) u) bs dss
  | .tup2 dss,a=>ow a∧∃ bs,H a=some (.tup (bs.map .ref))∧(a::bs).Nodup∧All2 (fun b ds=>ow b∧∃ u,H b=some u∧ORep1 K F (.lst ds) u) bs dss
  | o,a=>ow a∧∃ u,H a=some u∧ORep1 K F o u
theorem ORep1.same {K:PySem.W.Frag} {F F':Hp} (e:Same F F') {o:OD} {u:HO} (h:ORep1 K F o u):ORep1 K F' o u:=by
  cases o <;> cases u <;> first | exact h.elim | exact Reps.same e h | exact RepsT.same e h | exact RepsK.same e h | exact ⟨h.1,RepsF.same e h.2⟩
theorem ORep.flat {K:PySem.W.Frag} {F H:Hp} {ow:Addr→Prop} {o:OD} {a:Addr} (f:o.flat=true):ORep K F H ow o a↔ow a∧∃ u,H a=some u∧ORep1 K F o u:=by
  cases o <;> first | exact Iff.rfl | cases f
theorem ORep.mono {K:PySem.W.Frag} {F F' H H':Hp} {ow ow':Addr→Prop} {o:OD} {a:Addr} (e:Same F F') (k:∀ b u,ow b→H b=some u→H' b=some u∧ow' b) (h:ORep K F H ow o a):ORep K F' H' ow' o a:=by
  by_cases f:o.flat=true
  · obtain ⟨h1,u,h2,h3⟩:=(ORep.flat f).mp h
    obtain ⟨k1,k2⟩:=k a u h1 h2
    exact (ORep.flat f).mpr ⟨k2,u,k1,h3.same e⟩
  · cases o with
    | lst2 dss=>
      obtain ⟨h1,bs,h2,h3,h4⟩:=h
      obtain ⟨k1,k2⟩:=k a _ h1 h2
      exact ⟨k2,bs,k1,h3,h4.imp fun b ds ⟨q1,u,q2,q3⟩=>by obtain ⟨c1,c2⟩:=k b u q1 q2; exact ⟨c2,u,c1,q3.same e⟩⟩
    | tup2 dss=>
      obtain ⟨h1,bs,h2,h3,h4⟩:=h
      obtain ⟨k1,k2⟩:=k a _ h1 h2
      exact ⟨k2,bs,k1,h3,h4.imp fun b ds ⟨q1,u,q2,q3⟩=>by obtain ⟨c1,c2⟩:=k b u q1 q2; exact ⟨c2,u,c1,q3.same e⟩⟩
    | _=>exact absurd rfl f
theorem ORep1.rep {K:PySem.W.Frag} {F H:Hp} {o:OD} {u:HO} {a:Addr} (f:o.flat=true) (h:ORep1 K F o u) (hH:H a=some u) (e:Same F H):Rep K H (.ref a) o.d:=by
  cases o with
  | lst ds=>cases u with | lst vs=>exact .lst (SqL.of hH) (Reps.same e h) | _=>exact h.elim
  | dT ds=>cases u with | dT vs=>exact .dT hH (RepsT.same e h) | _=>exact h.elim
  | dK ds=>cases u with | dK vs=>exact .dK hH (RepsK.same e h) | _=>exact h.elim
  | ins C fs=>cases u with | ins C' dx vs=>(obtain ⟨rfl,h⟩:=h; exact .ins hH (RepsF.same e h)) | _=>exact h.elim
  | lst2 _=>cases f
  | tup2 _=>cases f
theorem ORep.rep {K:PySem.W.Frag} {F H G:Hp} {ow:Addr→Prop} {o:OD} {a:Addr} (h:ORep K F H ow o a) (e:Same F G) (k:∀ b u,ow b→H b=some u→G b=some u):Rep K G (.ref a) o.d:=by
  by_cases f:o.flat=true
  · obtain ⟨h1,u,h2,h3⟩:=(ORep.flat f).mp h
    exact h3.rep f (k a u h1 h2) e
  · cases o with
    | lst2 dss=>
      obtain ⟨h1,bs,h2,h3,h4⟩:=h
      refine .lst (SqL.of (k a _ h1 h2)) ?_
      clear h2 h1 h3 f
      induction h4 with
      | nil=>exact .nil
      | cons q r ih=>
        obtain ⟨q1,u,q2,q3⟩:=q
        exact .cons (q3.rep (o:=.lst _) rfl (k _ u q1 q2) e) ih
    | tup2 dss=>
      obtain ⟨h1,bs,h2,h3,h4⟩:=h
      refine .tup (k a _ h1 h2) ?_
      clear h2 h1 h3 f
      induction h4 with
      | nil=>exact .nil
      | cons q r ih=>
        obtain ⟨q1,u,q2,q3⟩:=q
        exact .cons (q3.rep (o:=.lst _) rfl (k _ u q1 q2) e) ih
    | _=>exact absurd rfl f
inductive DV where
  | v (d:D) | own (o:OD) (t:Option Addr) | bor (o:OD)
noncomputable abbrev DF:=List (Option DV)
noncomputable def DVRep (K:PySem.W.Frag) (P F H:Hp) (ow:Addr→Prop):DV→V→Prop
  | .v d,x=>Rep K F x d
  | .own o t,x=>∃ a,x=.ref a∧ORep K F H (fun b=>F b=none∧P b=none∧ow b) o a∧∀ b,t=some b→b=a
  | .bor o,x=>∃ a,x=.ref a∧ORep K F P (fun _=>True) o a
noncomputable def anyA:Addr→Prop:=fun _=>True
structure DHp (P F H:Hp):Prop where
  sub:Same F H
  pro:Same P H
  dis:∀ a o,P a=some o→F a=none
structure DInv (K:PySem.W.Frag) (P F H:Hp) (ρ:DF) (σ:St):Prop extends DHp P F H where
  len:ρ.length=σ.length
  rep:∃ O:Addr→Option Nat,∀ (i:Nat) (x:DV),ρ[i]?=some (some x)→∃ v,σ[i]?=some (some v)∧DVRep K P F H (fun b=>O b=some i) x v
structure Evo (P F H F' H':Hp):Prop where
  ext:Same F F'
  hp:DHp P F' H'
  keep:∀ a o,H a=some o→F a=none→H' a=some o∧F' a=none
theorem Evo.same {P F H F' H':Hp} (h:DHp P F H) (e:Evo P F H F' H'):Same H H':=fun a o q=>by
  cases c:F a with
  | none=>exact (e.keep a o q c).1
  | some u=>
    have:=h.sub a u c
    rw [q] at this
    cases this
    exact e.hp.sub a o (e.ext a o c)
theorem DVRep.evo {K:PySem.W.Frag} {P F H F' H':Hp} {ow:Addr→Prop} (e:Evo P F H F' H') {x:DV} {v:V} (r:DVRep K P F H ow x v):DVRep K P F' H' ow x v:=by
  cases x with
  | v d=>exact Rep.same e.ext r
  | own o t=>
    obtain ⟨a,rfl,h,ht⟩:=r
    exact ⟨a,rfl,h.mono e.ext fun b u ⟨q1,q2,q3⟩ hb=>by (obtain ⟨k1,k2⟩:=e.keep b u hb q1; exact ⟨k1,k2,q2,q3⟩),ht⟩
  | bor o=>
    obtain ⟨a,rfl,h⟩:=r
    exact ⟨a,rfl,h.mono e.ext fun b u q hb=>⟨hb,q⟩⟩
theorem DVRep.imp {K:PySem.W.Frag} {P F H:Hp} {ow ow':Addr→Prop} (f:∀ b u,F b=none→P b=none→H b=some u→ow b→ow' b) {x:DV} {v:V} (r:DVRep K P F H ow x v):DVRep K P F H ow' x v:=by
  cases x with
  | v d=>exact r
  | own o t=>
    obtain ⟨a,rfl,h,ht⟩:=r
    exact ⟨a,rfl,h.mono (Same.refl _) fun b u ⟨q1,q2,q3⟩ hb=>⟨hb,q1,q2,f b u q1 q2 hb q3⟩,ht⟩
  | bor o=>exact r
theorem DInv.evo {K:PySem.W.Frag} {P F H F' H':Hp} {ρ:DF} {σ:St} (I:DInv K P F H ρ σ) (e:Evo P F H F' H'):DInv K P F' H' ρ σ:=
  ⟨e.hp,I.len,by obtain ⟨O,h⟩:=I.rep; exact ⟨O,fun i x hx=>by obtain ⟨v,h1,h2⟩:=h i x hx; exact ⟨v,h1,h2.evo e⟩⟩⟩
theorem DInv.at {K:PySem.W.Frag} {P F H:Hp} {ρ:DF} {σ:St} (I:DInv K P F H ρ σ) {i:Nat} {x:DV} (h:ρ[i]?=some (some x)):∃ v,σ[i]?=some (some v)∧DVRep K P F H anyA x v:=by
  obtain ⟨O,k⟩:=I.rep
  obtain ⟨v,h1,h2⟩:=k i x h
  exact ⟨v,h1,h2.imp fun _ _ _ _ _ _=>trivial⟩
theorem Evo.refl {P F H:Hp} (h:DHp P F H):Evo P F H F H:=⟨Same.refl _,h,fun _ _ a b=>⟨a,b⟩⟩
theorem Evo.trans {P F H F1 H1 F2 H2:Hp} (a:Evo P F H F1 H1) (b:Evo P F1 H1 F2 H2):Evo P F H F2 H2:=
  ⟨a.ext.trans b.ext,b.hp,fun c o h n=>by obtain ⟨h1,n1⟩:=a.keep c o h n; exact b.keep c o h1 n1⟩
theorem Evo.laid {P F H:Hp} (h:DHp P F H) {a:Addr} {o:HO} (hn:H a=none):Evo P F H (upd F a o) (upd H a o) where
  ext:=fun b u e=>by rw [upd_ne (fun z=>by subst z; rw [h.sub _ _ e] at hn; cases hn)]; exact e
  hp:=⟨fun b u e=>by
      by_cases hb:b=a
      · subst hb; rw [upd_same] at e ⊢; exact e
      · rw [upd_ne hb] at e ⊢; exact h.sub b u e,
    fun b u e=>by rw [upd_ne (fun z=>by subst z; rw [h.pro _ _ e] at hn; cases hn)]; exact h.pro b u e,
    fun b u e=>by rw [upd_ne (fun z=>by subst z; rw [h.pro _ _ e] at hn; cases hn)]; exact h.dis b u e⟩
  keep:=fun b u e n=>by
    have hb:b≠a:=fun z=>by subst z; rw [e] at hn; cases hn
    rw [upd_ne hb,upd_ne hb]; exact ⟨e,n⟩
theorem Evo.side {P F H:Hp} (h:DHp P F H) {a:Addr} {o:HO} (hn:H a=none):Evo P F H F (upd H a o) where
  ext:=Same.refl _
  hp:=⟨fun b u e=>by rw [upd_ne (fun z=>by subst z; rw [h.sub _ _ e] at hn; cases hn)]; exact h.sub b u e,
    fun b u e=>by rw [upd_ne (fun z=>by subst z; rw [h.pro _ _ e] at hn; cases hn)]; exact h.pro b u e,h.dis⟩
  keep:=fun b u e n=>by
    have hb:b≠a:=fun z=>by subst z; rw [e] at hn; cases hn
    rw [upd_ne hb]; exact ⟨e,n⟩
theorem DHp.free {P F H:Hp} (h:DHp P F H) {a:Addr} (hn:H a=none):F a=none∧P a=none:=⟨h.sub.free hn,h.pro.free hn⟩
noncomputable def RepS (K:PySem.W.Frag) (H F:Hp) (v:V) (d:D):Prop:=
  Rep K F v d∨∃ (a:Addr) (o:OD) (u:HO),v=.ref a∧F a=none∧H a=some u∧ORep1 K F o u∧o.flat=true∧d=o.d
theorem RepS.evo {K:PySem.W.Frag} {P F H F' H':Hp} {v:V} {d:D} (r:RepS K H F v d) (e:Evo P F H F' H'):RepS K H' F' v d:=
  r.imp (Rep.same e.ext) fun ⟨a,o,u,h1,h2,h3,h4,h5⟩=>⟨a,o,u,h1,(e.keep a u h3 h2).2,(e.keep a u h3 h2).1,h4.same e.ext,h5⟩
theorem DInv.slot {K:PySem.W.Frag} {P F H:Hp} {ρ:DF} {σ:St} (I:DInv K P F H ρ σ) {i:Nat} {o:OD} {v:V} (hv:σ[i]?=some (some v)) (h:(∃ t,ρ[i]?=some (some (.own o t)))∨ρ[i]?=some (some (.bor o))):∃ a,v=.ref a∧ORep K F H (fun b=>F b=none) o a:=by
  rcases h with ⟨t,h⟩ | h
  · obtain ⟨v',h1,a,rfl,h2,_⟩:=I.at h
    rw [hv] at h1; cases h1
    exact ⟨a,rfl,h2.mono (Same.refl _) fun b u q hb=>⟨hb,q.1⟩⟩
  · obtain ⟨v',h1,a,rfl,h2⟩:=I.at h
    rw [hv] at h1; cases h1
    exact ⟨a,rfl,h2.mono (Same.refl _) fun b u q hb=>⟨I.pro b u hb,I.dis b u hb⟩⟩
theorem RepS.now {K:PySem.W.Frag} {F H:Hp} {v:V} {d:D} (I:Same F H) (r:RepS K H F v d):Rep K H v d:=by
  rcases r with r | ⟨a,o,u,rfl,_,h3,h4,hfl,rfl⟩
  · exact r.same I
  · exact h4.rep hfl h3 I
theorem RepS.slot {K:PySem.W.Frag} {P F H:Hp} {ρ:DF} {σ:St} (I:DInv K P F H ρ σ) {i:Nat} {o:OD} {v:V} (hv:σ[i]?=some (some v)) (h:(∃ t,ρ[i]?=some (some (.own o t)))∨ρ[i]?=some (some (.bor o))) (hfl:o.flat=true):RepS K H F v o.d:=by
  obtain ⟨a,rfl,h2⟩:=I.slot hv h
  obtain ⟨h3,u,h4,h5⟩:=(ORep.flat hfl).mp h2
  exact .inr ⟨a,o,u,rfl,h3,h4,h5,hfl,rfl⟩
noncomputable def tD (K:PySem.W.Frag) (f:DF→Option D):TE:=fun σ H Q=>∃ P F ρ d,f ρ=some d∧DInv K P F H ρ σ∧∀ v F' H',Evo P F H F' H'→Rep K F' v d→Q v H'
noncomputable def tR (K:PySem.W.Frag) (f:DF→Option D):TE:=fun σ H Q=>∃ P F ρ d,f ρ=some d∧DInv K P F H ρ σ∧∀ v F' H',Evo P F H F' H'→RepS K H' F' v d→Q v H'
noncomputable def tN (K:PySem.W.Frag) (f:DF→Option D):TE:=fun σ H Q=>∃ P F ρ d,f ρ=some d∧DInv K P F H ρ σ∧∀ v F' H',Evo P F H F' H'→Rep K H' v d→Q v H'
noncomputable def tB' (K:PySem.W.Frag) (f:DF→Option Bool):TT:=fun σ H Q=>∃ P F ρ b,f ρ=some b∧DInv K P F H ρ σ∧∀ F' H',Evo P F H F' H'→Q b H'
noncomputable def tL (K:PySem.W.Frag) (f:DF→Option (List D)):TA:=fun σ H Q=>∃ P F ρ ds,f ρ=some ds∧DInv K P F H ρ σ∧∀ vs F' H',Evo P F H F' H'→Reps K F' vs ds→Q vs H'
noncomputable def PDE (X:Cx) (e:Expr) (f:DF→Option D):Prop:=PE X e (tD X.K f)
noncomputable def PDR (X:Cx) (e:Expr) (f:DF→Option D):Prop:=PE X e (tR X.K f)
noncomputable def PDN (X:Cx) (e:Expr) (f:DF→Option D):Prop:=PE X e (tN X.K f)
noncomputable def PDT (X:Cx) (e:Expr) (f:DF→Option Bool):Prop:=PT X e (tB' X.K f)
noncomputable def PDA (X:Cx) (es:List Expr) (f:DF→Option (List D)):Prop:=PA X es (tL X.K f)
section
variable {X:Cx} {e a b c:Expr} {es:List Expr} {pos:Pos}
theorem PE.imp {t t':TE} (h:PE X e t) (i:∀ σ H Q,t' σ H Q→t σ H Q):PE X e t':=fun pins s σ H Q I q=>h pins s σ H Q I (i σ H Q q)
theorem PT.imp {t t':TT} (h:PT X e t) (i:∀ σ H Q,t' σ H Q→t σ H Q):PT X e t':=fun pins s σ H Q I q=>h pins s σ H Q I (i σ H Q q)
theorem PA.imp {t t':TA} (h:PA X es t) (i:∀ σ H Q,t' σ H Q→t σ H Q):PA X es t':=fun pos pins s σ H Q I q=>h pos pins s σ H Q I (i σ H Q q)
noncomputable def getV (i:Nat) (ρ:DF):Option D:=match ρ[i]? with
  | some (some (.v d))=>some d
  | _=>none
noncomputable def getR (i:Nat) (ρ:DF):Option D:=match ρ[i]? with
  | some (some (.v d))=>some d
  | some (some (.own o _))=>if o.flat=true then some o.d else none
  | some (some (.bor o))=>if o.flat=true then some o.d else none
  | _=>none
noncomputable def getN (i:Nat) (ρ:DF):Option D:=match ρ[i]? with
  | some (some (.v d))=>some d
  | some (some (.own o _))=>some o.d
  | some (some (.bor o))=>some o.d
  | _=>none
theorem getV_eq {i:Nat} {ρ:DF} {d:D} (h:getV i ρ=some d):ρ[i]?=some (some (.v d)):=by
  unfold getV at h
  split at h
  · rename_i q; cases h; exact q
  · cases h
theorem pde_of (i:Nat) (h:PE X e (tVar i)):PDE X e (getV i):=h.imp fun σ H Q=>un7 fun P F ρ d hf I k=>by
  obtain ⟨v,h1,h2⟩:=I.at (getV_eq hf)
  exact ⟨v,h1,k v F H (Evo.refl I.toDHp) h2⟩
theorem pdr_of (i:Nat) (h:PE X e (tVar i)):PDR X e (getR i):=h.imp fun σ H Q=>un7 fun P F ρ d hf I k=>by
  unfold getR at hf
  split at hf
  · rename_i d' q
    cases hf
    obtain ⟨v,h1,h2⟩:=I.at q
    exact ⟨v,h1,k v F H (Evo.refl I.toDHp) (.inl h2)⟩
  · rename_i o t q
    split at hf
    · rename_i hfl
      cases hf
      obtain ⟨v,h1,h2⟩:=I.at q
      exact ⟨v,h1,k v F H (Evo.refl I.toDHp) (RepS.slot I h1 (.inl ⟨t,q⟩) hfl)⟩
    · cases hf
  · rename_i o q
    split at hf
    · rename_i hfl
      cases hf
      obtain ⟨v,h1,h2⟩:=I.at q
      exact ⟨v,h1,k v F H (Evo.refl I.toDHp) (RepS.slot I h1 (.inr q) hfl)⟩
    · cases hf
  · cases hf
theorem pdn_of (i:Nat) (h:PE X e (tVar i)):PDN X e (getN i):=h.imp fun σ H Q=>un7 fun P F ρ d hf I k=>by
  unfold getN at hf
  split at hf
  · rename_i d' q
    cases hf
    obtain ⟨v,h1,h2⟩:=I.at q
    exact ⟨v,h1,k v F H (Evo.refl I.toDHp) (Rep.same I.sub h2)⟩
  · rename_i o t q
    cases hf
    obtain ⟨v,h1,_⟩:=I.at q
    obtain ⟨a,rfl,h2⟩:=I.slot h1 (.inl ⟨t,q⟩)
    exact ⟨_,h1,k _ F H (Evo.refl I.toDHp) (h2.rep I.sub fun _ _ _ q=>q)⟩
  · rename_i o q
    cases hf
    obtain ⟨v,h1,_⟩:=I.at q
    obtain ⟨a,rfl,h2⟩:=I.slot h1 (.inr q)
    exact ⟨_,h1,k _ F H (Evo.refl I.toDHp) (h2.rep I.sub fun _ _ _ q=>q)⟩
  · cases hf
theorem PDE.r {f:DF→Option D} (h:PDE X e f):PDR X e f:=PE.imp h fun σ H Q=>un7 fun P F ρ d hf I k=>⟨P,F,ρ,d,hf,I,fun v F' H' ev r=>k v F' H' ev (.inl r)⟩
theorem PDR.n {f:DF→Option D} (h:PDR X e f):PDN X e f:=PE.imp h fun σ H Q=>un7 fun P F ρ d hf I k=>⟨P,F,ρ,d,hf,I,fun v F' H' ev r=>k v F' H' ev (r.now ev.hp.sub)⟩
theorem PDE.n {f:DF→Option D} (h:PDE X e f):PDN X e f:=h.r.n
theorem pde_c {d:D} {v:V} (h:PE X e (tC v)) (r:∀ F,Rep X.K F v d):PDE X e (fun _=>some d):=h.imp fun σ H Q=>un7 fun P F ρ d' hf I k=>by
  cases hf
  exact k v F H (Evo.refl I.toDHp) (r F)
theorem pd_int {i j p}:PDE X (.Constant (.int i) j p) (fun _=>some (.int i)):=pde_c pe_int fun _=>.int
theorem pd_bl {i j p}:PDE X (.Constant (.bool i) j p) (fun _=>some (.bl i)):=pde_c pe_bl fun _=>.bl
theorem pd_str {i j p}:PDE X (.Constant (.str i) j p) (fun _=>some (.str i)):=pde_c pe_str fun _=>.str
theorem pd_non {j p}:PDE X (.Constant .none j p) (fun _=>some .non):=pde_c pe_non fun _=>.non
noncomputable def OpN2 (K:PySem.W.Frag) (r:R2) (f:D→D→Option D):Prop:=
  ∀ (P F H:Hp) (x y:V) (dx dy d:D) (Q:VK),f dx dy=some d→DHp P F H→Rep K H x dx→Rep K H y dy→(∀ v F' H',Evo P F H F' H'→Rep K F' v d→Q v H')→r x y H Q
noncomputable def d2 (f:D→D→Option D) (fa fb:DF→Option D):DF→Option D:=fun ρ=>(fa ρ).bind fun x=>(fb ρ).bind fun y=>f x y
theorem tOp_n2 {K:PySem.W.Frag} {r:R2} {f:D→D→Option D} {fa fb:DF→Option D} (ho:OpN2 K r f):∀ σ H Q,tD K (d2 f fa fb) σ H Q→tOp r (tN K fa) (tN K fb) σ H Q:=fun σ H Q=>un7 fun P F ρ d hf I k=>by
  unfold d2 at hf
  cases ha:fa ρ with
  | none=>rw [ha] at hf; cases hf
  | some dx=>
    rw [ha] at hf
    cases hb:fb ρ with
    | none=>rw [Option.bind_some,hb] at hf; cases hf
    | some dy=>
      rw [Option.bind_some,hb,Option.bind_some] at hf
      refine ⟨P,F,ρ,dx,ha,I,fun x F1 H1 e1 rx=>⟨P,F1,ρ,dy,hb,I.evo e1,fun y F2 H2 e2 ry=>?_⟩⟩
      exact ho P F2 H2 x y dx dy d Q hf e2.hp (rx.same (e2.same e1.hp)) ry fun v F3 H3 e3 rv=>k v F3 H3 ((e1.trans e2).trans e3) rv
theorem pn_cmp {op:CmpOp} {r:R2} {f:D→D→Option D} {fa fb:DF→Option D} (ho:OpR X (compareOp op) r) (hf:OpN2 X.K r f) (ha:PDN X a fa) (hb:PDN X b fb) (hm:behindInMarks op b=false):PDE X (.Compare a [op] [b] pos) (d2 f fa fb):=
  (pe_cmpR ho ha hb hm).imp (tOp_n2 hf)
noncomputable def OpD2 (K:PySem.W.Frag) (r:R2) (f:D→D→Option D):Prop:=
  ∀ (P F H:Hp) (ρ:DF) (σ:St) (x y:V) (dx dy d:D) (Q:VK),f dx dy=some d→DInv K P F H ρ σ→RepS K H F x dx→RepS K H F y dy→(∀ v F' H',Evo P F H F' H'→Rep K F' v d→Q v H')→r x y H Q
theorem tOp_d2 {K:PySem.W.Frag} {r:R2} {f:D→D→Option D} {fa fb:DF→Option D} (ho:OpD2 K r f):∀ σ H Q,tD K (d2 f fa fb) σ H Q→tOp r (tR K fa) (tR K fb) σ H Q:=fun σ H Q=>un7 fun P F ρ d hf I k=>by
  unfold d2 at hf
  cases ha:fa ρ with
  | none=>rw [ha] at hf; cases hf
  | some dx=>
    rw [ha] at hf
    cases hb:fb ρ with
    | none=>rw [Option.bind_some,hb] at hf; cases hf
    | some dy=>
      rw [Option.bind_some,hb,Option.bind_some] at hf
      refine ⟨P,F,ρ,dx,ha,I,fun x F1 H1 e1 rx=>⟨P,F1,ρ,dy,hb,I.evo e1,fun y F2 H2 e2 ry=>?_⟩⟩
      exact ho P F2 H2 ρ σ x y dx dy d Q hf ((I.evo e1).evo e2) (rx.evo e2) ry fun v F3 H3 e3 rv=>k v F3 H3 ((e1.trans e2).trans e3) rv
theorem pd_bin {op:Operator} {r:R2} {f:D→D→Option D} {fa fb:DF→Option D} (ho:OpR X (binaryOp op) r) (hf:OpD2 X.K r f) (ha:PDR X a fa) (hb:PDR X b fb):PDE X (.BinOp a op b pos) (d2 f fa fb):=
  (pe_op ho ha hb).imp (tOp_d2 hf)
noncomputable def asB (f:DF→Option D):DF→Option Bool:=fun ρ=>match f ρ with
  | some (.bl b)=>some b
  | _=>none
theorem asB_eq {f:DF→Option D} {ρ:DF} {b:Bool} (h:asB f ρ=some b):f ρ=some (.bl b):=by
  unfold asB at h
  split at h
  · rename_i q; cases h; exact q
  · cases h
theorem tTest_of {K:PySem.W.Frag} {t:TE} {f:DF→Option D} (h:∀ σ H Q,tD K f σ H Q→t σ H Q):∀ σ H Q,tB' K (asB f) σ H Q→tTest t σ H Q:=fun σ H Q=>un7 fun P F ρ b hf I k=>by
  refine h σ H _ ⟨P,F,ρ,.bl b,asB_eq hf,I,fun v F' H' ev r=>?_⟩
  cases r
  exact ⟨b,rfl,k F' H' ev⟩
theorem pt_cmpD {op:CmpOp} {r:R2} {f:D→D→Option D} {fa fb:DF→Option D} (ho:OpR X (compareOp op) r) (hf:OpD2 X.K r f) (ha:PDR X a fa) (hb:PDR X b fb) (hm:behindInMarks op b=false):PDT X (.Compare a [op] [b] pos) (asB (d2 f fa fb)):=
  (pt_cmpR ho ha hb hm).imp (tTest_of (tOp_d2 hf))
theorem ptn_cmp {op:CmpOp} {r:R2} {f:D→D→Option D} {fa fb:DF→Option D} (ho:OpR X (compareOp op) r) (hf:OpN2 X.K r f) (ha:PDN X a fa) (hb:PDN X b fb) (hm:behindInMarks op b=false):PDT X (.Compare a [op] [b] pos) (asB (d2 f fa fb)):=
  (pt_cmpR ho ha hb hm).imp (tTest_of (tOp_n2 hf))
theorem pt_valD {f:DF→Option D} (h:PDE X e f) (he:∀ whole,isTrue e X.env whole=(do let v ← whole; standAt e.pos; holding [v] (truthy v)):=by intro _; rfl):PDT X e (asB f):=
  (pt_val h he).imp (tTest_of (t:=tD X.K f) fun _ _ _ q=>q)
theorem rep_int {K:PySem.W.Frag} {H F:Hp} {x:V} {i:Int} (r:RepS K H F x (.int i)):x=.int i:=by
  rcases r with r | ⟨_,o,_,_,_,_,_,_,z⟩
  · cases r; rfl
  · cases o <;> cases z
theorem rep_str {K:PySem.W.Frag} {H F:Hp} {x:V} {i:Str} (r:RepS K H F x (.str i)):x=.str i:=by
  rcases r with r | ⟨_,o,_,_,_,_,_,_,z⟩
  · cases r; rfl
  · cases o <;> cases z
theorem rep_lst {K:PySem.W.Frag} {P F H:Hp} {ρ:DF} {σ:St} {x:V} {ds:List D} (I:DInv K P F H ρ σ) (r:RepS K H F x (.lst ds)):∃ a vs,x=.ref a∧SqL K H a vs∧Reps K F vs ds:=by
  rcases r with r | ⟨a,o,u,rfl,_,h3,h4,hfl,z⟩
  · cases r with | lst h q=>exact ⟨_,_,rfl,I.sub.seq h,q⟩
  · cases o with
    | lst ds'=>
      cases z
      cases u with
      | lst vs=>exact ⟨a,vs,rfl,SqL.of h3,h4⟩
      | _=>exact h4.elim
    | lst2 _=>cases hfl
    | tup2 _=>cases hfl
    | _=>cases z
theorem rep_tup {K:PySem.W.Frag} {P F H:Hp} {ρ:DF} {σ:St} {x:V} {ds:List D} (I:DInv K P F H ρ σ) (r:RepS K H F x (.tup ds)):∃ a vs,x=.ref a∧SqT K H a vs∧Reps K F vs ds:=by
  rcases r with r | ⟨a,o,u,rfl,_,h3,h4,hfl,z⟩
  · cases r with | tup h q=>exact ⟨_,_,rfl,SqT.of (I.sub _ _ h),q⟩
  · cases o <;> first | (cases z; done) | cases hfl
theorem rep_dT {K:PySem.W.Frag} {P F H:Hp} {ρ:DF} {σ:St} {x:V} {ds:List (List Key×D)} (I:DInv K P F H ρ σ) (r:RepS K H F x (.dT ds)):∃ a vs,x=.ref a∧H a=some (.dT vs)∧RepsT K F vs ds:=by
  rcases r with r | ⟨a,o,u,rfl,_,h3,h4,hfl,z⟩
  · cases r with | dT h q=>exact ⟨_,_,rfl,I.sub _ _ h,q⟩
  · cases o with
    | dT ds'=>
      cases z
      cases u with
      | dT vs=>exact ⟨a,vs,rfl,h3,h4⟩
      | _=>exact h4.elim
    | lst2 _=>cases hfl
    | tup2 _=>cases hfl
    | _=>cases z
theorem rep_ins {K:PySem.W.Frag} {P F H:Hp} {ρ:DF} {σ:St} {x:V} {C:Addr} {fs:List (Str×D)} (I:DInv K P F H ρ σ) (r:RepS K H F x (.ins C fs)):∃ a dx vs,x=.ref a∧H a=some (.ins C dx vs)∧RepsF K F vs fs:=by
  rcases r with r | ⟨a,o,u,rfl,_,h3,h4,hfl,z⟩
  · cases r with | ins h q=>exact ⟨_,_,_,rfl,I.sub _ _ h,q⟩
  · cases o with
    | ins C' fs'=>
      cases z
      cases u with
      | ins C'' dx vs=>(obtain ⟨rfl,h4⟩:=h4; exact ⟨a,dx,vs,rfl,h3,h4⟩)
      | _=>exact h4.elim
    | lst2 _=>cases hfl
    | tup2 _=>cases hfl
    | _=>cases z
noncomputable def fI (C:Int→Int→Bool) (g:Int→Int→D):D→D→Option D
  | .int i,.int j=>if C i j=true then some (g i j) else none
  | _,_=>none
theorem od_int {K:PySem.W.Frag} {C:Int→Int→Prop} {C':Int→Int→Bool} {g:Int→Int→V} {g':Int→Int→D} (hC:∀ i j,C' i j=true→C i j) (hg:∀ F i j,Rep K F (g i j) (g' i j)):OpD2 K (rI C g) (fI C' g'):=by
  intro P F H ρ σ x y dx dy d Q hf I rx ry k
  unfold fI at hf
  split at hf
  · rename_i i j
    split at hf
    · rename_i hc
      cases hf
      exact ⟨i,j,rep_int rx,rep_int ry,hC i j hc,k _ F H (Evo.refl I.toDHp) (hg F i j)⟩
    · cases hf
  · cases hf
noncomputable def fI0 (g:Int→Int→D):D→D→Option D
  | .int i,.int j=>some (g i j)
  | _,_=>none
theorem od_int0 {K:PySem.W.Frag} {g:Int→Int→V} {g':Int→Int→D} (hg:∀ F i j,Rep K F (g i j) (g' i j)):OpD2 K (rI0 g) (fI0 g'):=by
  intro P F H ρ σ x y dx dy d Q hf I rx ry k
  unfold fI0 at hf
  split at hf
  · rename_i i j
    cases hf
    exact ⟨i,j,rep_int rx,rep_int ry,k _ F H (Evo.refl I.toDHp) (hg F i j)⟩
  · cases hf
noncomputable def subD:=fI0 fun i j=>.int (i - j)
noncomputable def mulD:=fI (fun i j=>decide ((-(2 ^ 64) < i∧i < 2 ^ 64)∨(-(2 ^ 64) < j∧j < 2 ^ 64))) fun i j=>.int (i * j)
noncomputable def fdivD:=fI (fun _ j=>decide (0 < j∧j < 1073741824)) fun i j=>.int (i / j)
noncomputable def modD:=fI (fun _ j=>decide (0 < j)) fun i j=>.int (i % j)
noncomputable def powD:=fI (fun i j=>decide (0≤j∧j≤1000000∧i.natAbs < 2 ^ 64)) fun i j=>.int (i ^ j.toNat)
noncomputable def ltI:=fI0 fun i j=>.bl (decide (i < j))
noncomputable def leI:=fI0 fun i j=>.bl (decide (i≤j))
noncomputable def gtI:=fI0 fun i j=>.bl (decide (j < i))
theorem pd_sub {fa fb:DF→Option D} (ha:PDR X a fa) (hb:PDR X b fb):PDE X (.BinOp a .Sub b pos) (d2 subD fa fb):=pd_bin op_sub (od_int0 fun _ _ _=>.int) ha hb
theorem pd_mul {fa fb:DF→Option D} (ha:PDR X a fa) (hb:PDR X b fb):PDE X (.BinOp a .Mult b pos) (d2 mulD fa fb):=pd_bin op_mul (od_int (fun _ _ h=>by have q:=of_decide_eq_true h; exact q) fun _ _ _=>.int) ha hb
theorem pd_fdiv {fa fb:DF→Option D} (ha:PDR X a fa) (hb:PDR X b fb):PDE X (.BinOp a .FloorDiv b pos) (d2 fdivD fa fb):=pd_bin op_fdiv (od_int (fun _ _ h=>by have q:=of_decide_eq_true h; exact q) fun _ _ _=>.int) ha hb
theorem pd_mod {fa fb:DF→Option D} (ha:PDR X a fa) (hb:PDR X b fb):PDE X (.BinOp a .Mod b pos) (d2 modD fa fb):=pd_bin op_mod (od_int (fun _ _ h=>by have q:=of_decide_eq_true h; exact q) fun _ _ _=>.int) ha hb
theorem pd_pow {fa fb:DF→Option D} (ha:PDR X a fa) (hb:PDR X b fb):PDE X (.BinOp a .Pow b pos) (d2 powD fa fb):=pd_bin op_pow (od_int (fun _ _ h=>by have q:=of_decide_eq_true h; exact q) fun _ _ _=>.int) ha hb
end
noncomputable def tO (K:PySem.W.Frag) (f:DF→Option OD):TE:=fun σ H Q=>∃ P F ρ o,f ρ=some o∧DInv K P F H ρ σ ∧
  ∀ a F' H',Evo P F H F' H'→ORep K F' H' (fun b=>H b=none∧F' b=none) o a→Q (.ref a) H'
noncomputable def PDO (X:Cx) (e:Expr) (f:DF→Option OD):Prop:=PE X e (tO X.K f)
noncomputable def asO (f:DF→Option OD):DF→Option D:=fun ρ=>(f ρ).map OD.d
theorem Evo.back {P F H F' H':Hp} (h:DHp P F H) (e:Evo P F H F' H') {a:Addr} (n:H' a=none):H a=none:=by
  cases q:H a with
  | none=>rfl
  | some o=>rw [e.same h a o q] at n; cases n
open Classical in
noncomputable def frzH (F H:Hp) (ow:Addr→Prop):Hp:=fun b=>if ow b then H b else F b
theorem frzH_yes {F H:Hp} {ow:Addr→Prop} {b:Addr} (h:ow b):frzH F H ow b=H b:=if_pos h
theorem frzH_no {F H:Hp} {ow:Addr→Prop} {b:Addr} (h:¬ ow b):frzH F H ow b=F b:=if_neg h
theorem frzH_same {F H:Hp} {ow:Addr→Prop} (h:∀ b,ow b→F b=none):Same F (frzH F H ow):=fun b u e=>by
  by_cases q:ow b
  · rw [h b q] at e; cases e
  · rw [frzH_no q]; exact e
theorem Evo.freeze {P F H F' H':Hp} (h0:DHp P F H) (e:Evo P F H F' H') (ow:Addr→Prop) (hn:∀ b,ow b→H b=none∧F' b=none):Evo P F H (frzH F' H' ow) H' where
  ext:=e.ext.trans (frzH_same fun b q=>(hn b q).2)
  hp:=⟨fun b u h=>by
      by_cases q:ow b
      · rw [frzH_yes q] at h; exact h
      · rw [frzH_no q] at h; exact e.hp.sub b u h,e.hp.pro,fun b u h=>by
      rw [frzH_no fun q=>by rw [(h0.pro.free (hn b q).1)] at h; cases h]; exact e.hp.dis b u h⟩
  keep:=fun b u h n=>by
    obtain ⟨k1,k2⟩:=e.keep b u h n
    refine ⟨k1,?_⟩
    rw [frzH_no fun q=>by rw [(hn b q).1] at h; cases h]
    exact k2
theorem same_upd {F:Hp} {a:Addr} {o:HO} (h:F a=none):Same F (upd F a o):=fun b u e=>by rw [upd_ne (ne_of_none e h)]; exact e
section
variable {X:Cx} {e:Expr} {es:List Expr} {st:Stmt} {sts rest:List Stmt} {pos:Pos}
theorem PDO.v {f:DF→Option OD} (h:PDO X e f):PDE X e (asO f):=PE.imp h fun σ H Q=>un7 fun P F ρ d hf I k=>by
  unfold asO at hf
  cases q:f ρ with
  | none=>rw [q] at hf; cases hf
  | some o=>
    rw [q] at hf
    cases hf
    refine ⟨P,F,ρ,o,q,I,fun a F' H' ev ho=>?_⟩
    have hn:∀ b,(H b=none∧F' b=none)→H b=none∧F' b=none:=fun _ q=>q
    exact k (.ref a) _ H' (ev.freeze I.toDHp (fun b=>H b=none∧F' b=none) hn) (ho.rep (frzH_same fun b q=>q.2) fun b u q hb=>by rw [frzH_yes q]; exact hb)
noncomputable def asL (f:DF→Option (List D)):DF→Option OD:=fun ρ=>(f ρ).map .lst
inductive RES where
  | nx (ρ:DF) | rt (x:DV) (ρ:DF) | bk (ρ:DF) | ct (ρ:DF)
noncomputable def EndsD (K:PySem.W.Frag) (P F:Hp) (E:Ends):RES→Prop
  | .nx ρ=>∀ σ F' H',Same F F'→DInv K P F' H' ρ σ→E.nx σ H'
  | .bk ρ=>∀ σ F' H',Same F F'→DInv K P F' H' ρ σ→E.bk σ H'
  | .ct ρ=>∀ σ F' H',Same F F'→DInv K P F' H' ρ σ→E.ct σ H'
  | .rt x ρ=>∀ v σ F' H',Same F F'→DInv K P F' H' ρ σ→DVRep K P F' H' anyA x v→E.rt v H'
theorem EndsD.ext {K:PySem.W.Frag} {P F F1:Hp} {E:Ends} {r:RES} (h:EndsD K P F E r) (e:Same F F1):EndsD K P F1 E r:=by
  cases r with
  | nx ρ=>exact fun σ F' H' e' I=>h σ F' H' (e.trans e') I
  | bk ρ=>exact fun σ F' H' e' I=>h σ F' H' (e.trans e') I
  | ct ρ=>exact fun σ F' H' e' I=>h σ F' H' (e.trans e') I
  | rt x ρ=>exact fun v σ F' H' e' I r=>h v σ F' H' (e.trans e') I r
noncomputable def tS (K:PySem.W.Frag) (g:DF→Option RES):TS:=fun E σ H=>∃ P F ρ r,g ρ=some r∧DInv K P F H ρ σ∧EndsD K P F E r
noncomputable def PD1 (X:Cx) (st:Stmt) (g:DF→Option RES):Prop:=PS X st (tS X.K g)
noncomputable def PDS (X:Cx) (sts:List Stmt) (g:DF→Option RES):Prop:=PSs X sts (tS X.K g)
theorem PS.imp {t t':TS} (h:PS X st t) (i:∀ E σ H,t' E σ H→t E σ H):PS X st t':=fun pins s σ H E I q=>h pins s σ H E I (i E σ H q)
theorem PSs.imp {t t':TS} (h:PSs X sts t) (i:∀ E σ H,t' E σ H→t E σ H):PSs X sts t':=fun pins s σ H E I q=>h pins s σ H E I (i E σ H q)
noncomputable def dNx:DF→Option RES:=fun ρ=>some (.nx ρ)
theorem tS_nx {K:PySem.W.Frag}:∀ E σ H,tS K dNx E σ H→E.nx σ H:=fun E σ H=>un7 fun P F ρ r hg I k=>by
  cases hg
  exact k σ F H (Same.refl _) I
theorem pds_nil:PDS X [] dNx:=PSs.imp pss_nil tS_nx
noncomputable def dSeq (g h:DF→Option RES):DF→Option RES:=fun ρ=>match g ρ with
  | some (.nx ρ')=>h ρ'
  | r=>r
theorem pds_cons {g h:DF→Option RES} (h1:PD1 X st g) (h2:PDS X rest h):PDS X (st::rest) (dSeq g h):=PSs.imp (pss_cons h1 h2) fun E σ H=>un7 fun P F ρ r hg I k=>by
  unfold dSeq at hg
  split at hg
  · rename_i ρ' q
    exact ⟨P,F,ρ,_,q,I,fun σ' F' H' e I'=>⟨P,F',ρ',r,hg,I',k.ext e⟩⟩
  · rename_i q
    refine ⟨P,F,ρ,r,hg,I,?_⟩
    cases r with
    | nx ρ'=>exact absurd hg (q ρ')
    | bk ρ=>exact k
    | ct ρ=>exact k
    | rt x ρ=>exact k
theorem pds_one {g:DF→Option RES} (h1:PD1 X st g):PDS X [st] g:=PSs.imp (pss_one h1) fun _ _ _ q=>q
noncomputable def dRet (f:DF→Option D):DF→Option RES:=fun ρ=>(f ρ).map fun d=>.rt (.v d) ρ
theorem pd_ret {f:DF→Option D} (h:PDE X e f):PD1 X (.Return (some e) pos) (dRet f):=PS.imp (ps_ret h) fun E σ H=>un7 fun P F ρ r hg I k=>by
  unfold dRet at hg
  cases q:f ρ with
  | none=>rw [q] at hg; cases hg
  | some d=>
    rw [q] at hg
    cases hg
    exact ⟨P,F,ρ,d,q,I,fun v F' H' ev rv=>k v σ F' H' ev.ext (I.evo ev) rv⟩
noncomputable def dRetO (f:DF→Option OD):DF→Option RES:=fun ρ=>(f ρ).map fun o=>.rt (.own o none) ρ
theorem pd_retO {f:DF→Option OD} (h:PDO X e f):PD1 X (.Return (some e) pos) (dRetO f):=PS.imp (ps_ret h) fun E σ H=>un7 fun P F ρ r hg I k=>by
  unfold dRetO at hg
  cases q:f ρ with
  | none=>rw [q] at hg; cases hg
  | some o=>
    rw [q] at hg
    cases hg
    exact ⟨P,F,ρ,o,q,I,fun a F' H' ev ho=>k (.ref a) σ F' H' ev.ext (I.evo ev) ⟨a,rfl,ho.mono (Same.refl _) fun b u q hb=>⟨hb,q.2,I.pro.free q.1,trivial⟩,fun _ z=>nomatch z⟩⟩
noncomputable def dRetS (i:Nat):DF→Option RES:=fun ρ=>match ρ[i]? with
  | some (some x)=>some (.rt x ρ)
  | _=>none
theorem pd_retS (i:Nat) (h:PE X e (tVar i)):PD1 X (.Return (some e) pos) (dRetS i):=PS.imp (ps_ret h) fun E σ H=>un7 fun P F ρ r hg I k=>by
  unfold dRetS at hg
  split at hg
  · rename_i x q
    cases hg
    obtain ⟨v,h1,h2⟩:=I.at q
    exact ⟨v,h1,k v σ F H (Same.refl _) I h2⟩
  · cases hg
theorem set_get {α:Type} {l:List α} {i j:Nat} {x y:α} (h:(l.set i x)[j]?=some y):(i=j∧y=x∧i < l.length)∨(i≠j∧l[j]?=some y):=by
  by_cases hj:i=j
  · subst hj
    have hl:i < l.length:=by have:=(List.getElem?_eq_some_iff.mp h).1; rwa [List.length_set] at this
    rw [List.getElem?_set_self hl] at h
    exact .inl ⟨rfl,(Option.some.inj h).symm,hl⟩
  · rw [List.getElem?_set_ne hj] at h
    exact .inr ⟨hj,h⟩
theorem DInv.setO {K:PySem.W.Frag} {P F H:Hp} {ρ:DF} {σ:St} (I:DInv K P F H ρ σ) (i:Nat) {v:V} {x:DV} (nw:Addr→Prop) (hn:∀ (j:Nat) (y:DV) (w:V) (O:Addr→Option Nat),j≠i→ρ[j]?=some (some y)→DVRep K P F H (fun b=>O b=some j) y w→DVRep K P F H (fun b=>O b=some j∧¬ nw b) y w) (r:DVRep K P F H nw x v) :
    DInv K P F H (ρ.set i (some x)) (σ.set i (some v)):=by
  obtain ⟨O,h⟩:=I.rep
  refine ⟨I.toDHp,by rw [List.length_set,List.length_set]; exact I.len,?_⟩
  classical
  refine ⟨fun b=>if nw b then some i else if O b=some i then none else O b,fun j y hj=>?_⟩
  rcases set_get hj with ⟨rfl,e,hl⟩ | ⟨hij,hj'⟩
  · cases e
    refine ⟨v,by rw [List.getElem?_set_self (by rw [← I.len]; exact hl)],r.imp fun b u _ _ _ q=>if_pos q⟩
  · obtain ⟨w,h1,h2⟩:=h j y hj'
    refine ⟨w,by rw [List.getElem?_set_ne hij]; exact h1,(hn j y w O (Ne.symm hij) hj' h2).imp fun b u _ _ _ q=>?_⟩
    show (if nw b then some i else if O b=some i then none else O b)=some j
    rw [if_neg q.2,if_neg (by rw [q.1]; intro z; exact hij (Option.some.inj z).symm),q.1]
theorem DInv.setV {K:PySem.W.Frag} {P F H:Hp} {ρ:DF} {σ:St} (I:DInv K P F H ρ σ) (i:Nat) {v:V} {d:D} (r:Rep K F v d):DInv K P F H (ρ.set i (some (.v d))) (σ.set i (some v)):=
  I.setO i (fun _=>False) (fun j y w O _ _ q=>q.imp fun b u _ _ _ z=>⟨z,id⟩) r
theorem DInv.setN {K:PySem.W.Frag} {P F H F' H':Hp} {ρ:DF} {σ:St} (I:DInv K P F H ρ σ) (ev:Evo P F H F' H') (i:Nat) {a:Addr} {o:OD} (ho:ORep K F' H' (fun b=>H b=none∧F' b=none) o a):DInv K P F' H' (ρ.set i (some (.own o none))) (σ.set i (some (.ref a))):=by
  obtain ⟨O,h⟩:=I.rep
  refine ⟨ev.hp,by rw [List.length_set,List.length_set]; exact I.len,?_⟩
  classical
  refine ⟨fun b=>if H b=none then some i else if O b=some i then none else O b,fun j y hj=>?_⟩
  rcases set_get hj with ⟨rfl,e,hl⟩ | ⟨hij,hj'⟩
  · cases e
    refine ⟨.ref a,by rw [List.getElem?_set_self (by rw [← I.len]; exact hl)],a,rfl,ho.mono (Same.refl _) fun b u q hb=>⟨hb,q.2,I.pro.free q.1,if_pos q.1⟩,fun _ z=>nomatch z⟩
  · obtain ⟨w,h1,h2⟩:=h j y hj'
    refine ⟨w,by rw [List.getElem?_set_ne hij]; exact h1,?_⟩
    have h3:DVRep K P F H (fun b=>(if H b=none then some i else if O b=some i then none else O b)=some j) y w:=h2.imp fun b u _ _ hb q=>by
      show (if H b=none then some i else if O b=some i then none else O b)=some j
      rw [if_neg (by rw [hb]; simp),if_neg (by rw [q]; intro z; exact hij (Option.some.inj z).symm),q]
    exact h3.evo ev
noncomputable def setV (i:Nat) (d:D) (ρ:DF):Option DF:=some (ρ.set i (some (.v d)))
noncomputable def dSet (i:Nat) (f:DF→Option D):DF→Option RES:=fun ρ=>(f ρ).map fun d=>.nx (ρ.set i (some (.v d)))
theorem tAsg_v {K:PySem.W.Frag} {i:Nat} {f:DF→Option D}:∀ E σ H,tS K (dSet i f) E σ H→tAsg (tD K f) (gName i) E σ H:=fun E σ H=>un7 fun P F ρ r hg I k=>by
  unfold dSet at hg
  cases q:f ρ with
  | none=>rw [q] at hg; cases hg
  | some d=>
    rw [q] at hg
    cases hg
    exact ⟨P,F,ρ,d,q,I,fun v F' H' ev rv=>k _ F' H' ev.ext ((I.evo ev).setV i rv)⟩
theorem pd_set {i:Nat} {x:Str} {pos':Pos} {f:DF→Option D} (hN:X.N.Nodup) (hi:X.N[i]?=some x) (hx:Loc X.env.scope x) (he:PDE X e f) (hs:swapsWith e (some (.Name x pos')) pos.line X.env=pure false:=by rfl) (hf:X.fn x=true∨X.env.scope.names.lookup x=some .local:=by first | exact .inl rfl | exact .inr rfl | assumption) :
    PD1 X (.Assign [.Name x pos'] e pos) (dSet i f):=PS.imp (ps_set hN hi hx he hs hf) tAsg_v
noncomputable def dSetO (i:Nat) (f:DF→Option OD):DF→Option RES:=fun ρ=>(f ρ).map fun o=>.nx (ρ.set i (some (.own o none)))
theorem tAsg_o {K:PySem.W.Frag} {i:Nat} {f:DF→Option OD}:∀ E σ H,tS K (dSetO i f) E σ H→tAsg (tO K f) (gName i) E σ H:=fun E σ H=>un7 fun P F ρ r hg I k=>by
  unfold dSetO at hg
  cases q:f ρ with
  | none=>rw [q] at hg; cases hg
  | some o=>
    rw [q] at hg
    cases hg
    exact ⟨P,F,ρ,o,q,I,fun a F' H' ev ho=>k _ F' H' ev.ext (I.setN ev i ho)⟩
theorem pd_setO {i:Nat} {x:Str} {pos':Pos} {f:DF→Option OD} (hN:X.N.Nodup) (hi:X.N[i]?=some x) (hx:Loc X.env.scope x) (he:PDO X e f) (hs:swapsWith e (some (.Name x pos')) pos.line X.env=pure false:=by rfl) (hf:X.fn x=true∨X.env.scope.names.lookup x=some .local:=by first | exact .inl rfl | exact .inr rfl | assumption) :
    PD1 X (.Assign [.Name x pos'] e pos) (dSetO i f):=PS.imp (ps_set hN hi hx he hs hf) tAsg_o
noncomputable def dFrz (i:Nat) (g:DF→Option RES):DF→Option RES:=fun ρ=>match ρ[i]? with
  | some (some (.own o none))=>g (ρ.set i (some (.v o.d)))
  | some (some (.v d))=>g ρ
  | _=>none
theorem DInv.frz {K:PySem.W.Frag} {P F H:Hp} {ρ:DF} {σ:St} (I:DInv K P F H ρ σ) {i:Nat} {o:OD} {t:Option Addr} (h:ρ[i]?=some (some (.own o t))):∃ F',Same F F'∧DInv K P F' H (ρ.set i (some (.v o.d))) σ:=by
  obtain ⟨O,hr⟩:=I.rep
  have hn:∀ b,(F b=none∧P b=none∧O b=some i)→F b=none:=fun b q=>q.1
  refine ⟨frzH F H (fun b=>F b=none∧P b=none∧O b=some i),frzH_same hn,⟨fun b u q=>?_,I.pro,fun b u q=>?_⟩,by rw [List.length_set]; exact I.len,O,fun j y hj=>?_⟩
  · by_cases c:F b=none∧P b=none∧O b=some i
    · rw [frzH_yes (ow:=fun b=>F b=none∧P b=none∧O b=some i) c] at q; exact q
    · rw [frzH_no (ow:=fun b=>F b=none∧P b=none∧O b=some i) c] at q; exact I.sub b u q
  · rw [frzH_no (ow:=fun b=>F b=none∧P b=none∧O b=some i) fun c=>by rw [c.2.1] at q; cases q]; exact I.dis b u q
  · rcases set_get hj with ⟨rfl,e,hl⟩ | ⟨hij,hj'⟩
    · cases e
      obtain ⟨v,h1,a,rfl,h2,_⟩:=hr i _ h
      exact ⟨_,h1,h2.rep (frzH_same hn) fun b u q hb=>by rw [frzH_yes (ow:=fun b=>F b=none∧P b=none∧O b=some i) q]; exact hb⟩
    · obtain ⟨v,h1,h2⟩:=hr j y hj'
      refine ⟨v,h1,?_⟩
      cases y with
      | v d=>exact Rep.same (frzH_same hn) h2
      | own o' t'=>
        obtain ⟨a,rfl,h3,ht⟩:=h2
        exact ⟨a,rfl,h3.mono (frzH_same hn) fun b u q hb=>⟨hb,by
          rw [frzH_no (ow:=fun b=>F b=none∧P b=none∧O b=some i) fun c=>by rw [q.2.2] at c; exact hij (Option.some.inj c.2.2).symm]; exact q.1,q.2⟩,ht⟩
      | bor o'=>
        obtain ⟨a,rfl,h3⟩:=h2
        exact ⟨a,rfl,h3.mono (frzH_same hn) fun b u q hb=>⟨hb,q⟩⟩
theorem tS_frz {K:PySem.W.Frag} {i:Nat} {g:DF→Option RES}:∀ E σ H,tS K (dFrz i g) E σ H→tS K g E σ H:=fun E σ H=>un7 fun P F ρ r hg I k=>by
  unfold dFrz at hg
  split at hg
  · rename_i o q
    obtain ⟨F',e,I'⟩:=I.frz q
    exact ⟨P,F',_,r,hg,I',k.ext e⟩
  · exact ⟨P,F,ρ,r,hg,I,k⟩
  · cases hg
theorem pd1_frz (i:Nat) {g:DF→Option RES} (h:PD1 X st g):PD1 X st (dFrz i g):=PS.imp h tS_frz
noncomputable def dNone:DF→Option RES:=fun _=>none
theorem pd_never:PD1 X st dNone:=PS.imp ps_never fun _ _ _ ⟨_,_,_,_,h,_⟩=>by cases h
noncomputable def dDrop (f:DF→Option D):DF→Option RES:=fun ρ=>(f ρ).map fun _=>.nx ρ
theorem pd_expr {f:DF→Option D} (h:PDE X e f) (hs:swapsWith e none pos.line X.env=pure false:=by rfl):PD1 X (.Expr e pos) (dDrop f):=PS.imp (ps_expr h hs) fun E σ H=>un7 fun P F ρ r hg I k=>by
  unfold dDrop at hg
  cases q:f ρ with
  | none=>rw [q] at hg; cases hg
  | some d=>
    rw [q] at hg
    cases hg
    exact ⟨P,F,ρ,d,q,I,fun v F' H' ev _=>k σ F' H' ev.ext (I.evo ev)⟩
noncomputable def dIf (c:DF→Option Bool) (g h:DF→Option RES):DF→Option RES:=fun ρ=>(c ρ).bind fun b=>if b=true then g ρ else h ρ
theorem pd_if {c:Expr} {a b:List Stmt} {fc:DF→Option Bool} {g h:DF→Option RES} (hc:PDT X c fc) (ha:PDS X a g) (hb:PDS X b h):PD1 X (.If c a b pos) (dIf fc g h):=PS.imp (ps_if hc ha hb) fun E σ H=>un7 fun P F ρ r hg I k=>by
  unfold dIf at hg
  cases q:fc ρ with
  | none=>rw [q] at hg; cases hg
  | some b=>
    rw [q,Option.bind_some] at hg
    refine ⟨P,F,ρ,b,q,I,fun F' H' ev=>?_⟩
    cases b with
    | true=>
      rw [if_pos rfl] at hg ⊢
      exact ⟨P,F',ρ,r,hg,I.evo ev,k.ext ev.ext⟩
    | false=>
      rw [if_neg Bool.false_ne_true] at hg ⊢
      exact ⟨P,F',ρ,r,hg,I.evo ev,k.ext ev.ext⟩
noncomputable def ItOk (K:PySem.W.Frag) (P:Hp) (J:It) (F:Hp) (ds:List D):Prop:=
  ∀ F' H',Same F F'→DHp P F' H'→∀ i:Nat,(∀ d,ds[i]?=some d→J.go i H'∧∀ x H2,J.yld i H' x H2→∃ F2,Evo P F' H' F2 H2∧Rep K F2 x d)∧(ds.length≤i→J.stop i H')
noncomputable def tI (K:PySem.W.Frag) (f:DF→Option (List D)):TI:=fun σ H R=>∃ P F ρ ds,f ρ=some ds∧DInv K P F H ρ σ∧∀ (J:It) F' H',Evo P F H F' H'→ItOk K P J F' ds→R J H'
noncomputable def PDI (X:Cx) (tg iter:Expr) (f:DF→Option (List D)):Prop:=PI X tg iter (tI X.K f)
theorem PI.imp {tg iter:Expr} {t t':TI} (h:PI X tg iter t) (i:∀ σ H R,t' σ H R→t σ H R):PI X tg iter t':=fun pins s σ H R I q=>h pins s σ H R I (i σ H R q)
noncomputable def tG (K:PySem.W.Frag) (is:List Nat) (st:D→DF→Option DF):TG:=fun v σ H Q=>∃ P F ρ d ρ',st d ρ=some ρ'∧DInv K P F H ρ σ∧Rep K F v d∧∀ σ' F' H',Evo P F H F' H'→DInv K P F' H' ρ' σ'→σ'.length=σ.length→(∀ j,j∉is→σ'[j]?=σ[j]?)→Q σ' H'
noncomputable def PDG (X:Cx) (tg:Expr) (is:List Nat) (st:D→DF→Option DF):Prop:=PG X tg (tG X.K is st)
theorem PG.imp {tg:Expr} {t t':TG} (h:PG X tg t) (i:∀ v σ H Q,t' v σ H Q→t v σ H Q):PG X tg t':=fun pins s σ H v u Q I r q=>h pins s σ H v u Q I r (i v σ H Q q)
theorem pdg_name {i:Nat} {x:Str} (hN:X.N.Nodup) (hi:X.N[i]?=some x) (hx:Loc X.env.scope x) (hf:X.fn x=true∨X.env.scope.names.lookup x=some .local:=by first | exact .inl rfl | exact .inr rfl | assumption):PDG X (.Name x pos) [i] (setV i):=
  PG.imp (pg_name hN hi hx hf) fun v σ H Q hh_=>by
    obtain ⟨P,F,ρ,d,ρ',hs,I,r,k⟩:=hh_
    cases hs
    exact k _ F H (Evo.refl I.toDHp) (I.setV i r) (List.length_set ..) fun j hj=>by rw [List.getElem?_set_ne (fun z=>hj (by rw [z]; exact List.mem_singleton_self _))]
noncomputable def forD (st:D→DF→Option DF) (body:DF→Option RES):List D→DF→Option RES
  | [],ρ=>some (.nx ρ)
  | d::ds,ρ=>match st d ρ with
    | none=>none
    | some ρ1=>match body ρ1 with
      | some (.nx ρ')=>forD st body ds ρ'
      | some (.ct ρ')=>forD st body ds ρ'
      | some (.bk ρ')=>some (.nx ρ')
      | r=>r
noncomputable def dFor (it:DF→Option (List D)) (st:D→DF→Option DF) (body:DF→Option RES):DF→Option RES:=fun ρ=>(it ρ).bind fun ds=>forD st body ds ρ
theorem pd_for {tg iter:Expr} {body:List Stmt} {f:DF→Option (List D)} {is:List Nat} {st:D→DF→Option DF} {g:DF→Option RES} (hp:PassesOwn (model X.prog X.w) X.A X.env X.xe) (hc:X.calm=true) (hi:PDI X tg iter f) (hg:PDG X tg is st) (hb:PDS X body g)
    (hs:∀ x,foldedSetIterable iter X.env x=pure x:=by intro _; rfl):PD1 X (.For tg iter body [] pos) (dFor f st g):=PS.imp (ps_for hp hc hi hg hb hs) fun E σ H=>un7 fun P F ρ r hr I k=>by
  unfold dFor at hr
  cases q:f ρ with
  | none=>rw [q] at hr; cases hr
  | some ds=>
    rw [q,Option.bind_some] at hr
    refine ⟨P,F,ρ,ds,q,I,fun J F1 H1 ev ok=>?_⟩
    refine ⟨fun i m σ' H'=>m=ds.length - i∧i≤ds.length∧∃ F' ρ',Same F1 F'∧DInv X.K P F' H' ρ' σ'∧forD st g (ds.drop i) ρ'=some r,⟨_,rfl,Nat.zero_le _,F1,ρ,Same.refl _,I.evo ev,hr⟩,?_⟩
    rintro i m σ' H' ⟨rfl,hil,F',ρ',se,I',hf⟩
    obtain ⟨ok1,ok2⟩:=ok F' H' se I'.toDHp i
    by_cases hlt:i < ds.length
    · have hd:ds[i]?=some ds[i]:=List.getElem?_eq_getElem hlt
      obtain ⟨go,yl⟩:=ok1 _ hd
      have hdrop:ds.drop i=ds[i]::ds.drop (i + 1):=List.drop_eq_getElem_cons hlt
      rw [hdrop] at hf
      unfold forD at hf
      cases hst:st ds[i] ρ' with
      | none=>rw [hst] at hf; cases hf
      | some ρ1=>
        rw [hst] at hf
        dsimp only at hf
        have hE:Same F F':=ev.ext.trans se
        refine .inr ⟨go,fun σ2 H2=>∃ F2 ρ2,Same F1 F2∧DInv X.K P F2 H2 ρ2 σ2∧forD st g (ds.drop (i + 1)) ρ2=some r,fun σ2 H2 ⟨F2,ρ2,s2,I2,hf2⟩=>⟨ds.length - (i + 1),by omega,rfl,hlt,F2,ρ2,s2,I2,hf2⟩,fun x H2 hy=>?_⟩
        obtain ⟨F2,ev2,rx⟩:=yl x H2 hy
        refine ⟨P,F2,ρ',ds[i],ρ1,hst,I'.evo ev2,rx,fun σ3 F3 H3 ev3 I3 _ _=>?_⟩
        have s13:Same F1 F3:=se.trans (ev2.ext.trans ev3.ext)
        cases hb':g ρ1 with
        | none=>rw [hb'] at hf; cases hf
        | some res=>
          rw [hb'] at hf
          refine ⟨P,F3,ρ1,res,hb',I3,?_⟩
          cases res with
          | nx ρ4=>exact fun σ4 F4 H4 e4 I4=>⟨F4,ρ4,s13.trans e4,I4,hf⟩
          | ct ρ4=>exact fun σ4 F4 H4 e4 I4=>⟨F4,ρ4,s13.trans e4,I4,hf⟩
          | bk ρ4=>
            cases hf
            exact fun σ4 F4 H4 e4 I4=>k σ4 F4 H4 (ev.ext.trans (s13.trans e4)) I4
          | rt x4 ρ4=>
            cases hf
            exact fun v4 σ4 F4 H4 e4 I4 r4=>k v4 σ4 F4 H4 (ev.ext.trans (s13.trans e4)) I4 r4
    · have hz:ds.drop i=[]:=List.drop_eq_nil_of_le (by omega)
      rw [hz] at hf
      cases hf
      exact .inl ⟨ok2 (by omega),k σ' F' H' (ev.ext.trans se) I'⟩
end
noncomputable def gd (F H:Hp):Hp:=fun a=>match F a with
  | none=>H a
  | some _=>none
theorem gd_eq {F H:Hp} {a:Addr} {o:HO}:gd F H a=some o↔F a=none∧H a=some o:=by
  unfold gd
  cases q:F a with
  | none=>simp
  | some u=>simp
theorem gd_hp {F H:Hp} (s:Same F H):DHp (gd F H) F H:=⟨s,fun a o e=>(gd_eq.mp e).2,fun a o e=>(gd_eq.mp e).1⟩
theorem DHp.gd {P F H F' H':Hp} (h:DHp P F H) (e:Same F F') (g:DHp (gd F H) F' H'):Evo P F H F' H' where
  ext:=e
  hp:=⟨g.sub,fun a o q=>g.pro a o (gd_eq.mpr ⟨h.dis a o q,h.pro a o q⟩),fun a o q=>g.dis a o (gd_eq.mpr ⟨h.dis a o q,h.pro a o q⟩)⟩
  keep:=fun a o q n=>⟨g.pro a o (gd_eq.mpr ⟨n,q⟩),g.dis a o (gd_eq.mpr ⟨n,q⟩)⟩
theorem Evo.change {P P1 F H F' H':Hp} (e:Evo P F H F' H') (h:DHp P1 F H):Evo P1 F H F' H':=
  ⟨e.ext,⟨e.hp.sub,fun a o q=>(e.keep a o (h.pro a o q) (h.dis a o q)).1,fun a o q=>(e.keep a o (h.pro a o q) (h.dis a o q)).2⟩,e.keep⟩
noncomputable def isOwn:DV→Bool
  | .own _ _=>true
  | _=>false
inductive DVs (K:PySem.W.Frag) (P F H:Hp):List DV→List V→Prop
  | nil:DVs K P F H [] []
  | cons {x:DV} {v:V} {xs:List DV} {vs:List V}:isOwn x=false→DVRep K P F H anyA x v→DVs K P F H xs vs→DVs K P F H (x::xs) (v::vs)
theorem DVs.length {K:PySem.W.Frag} {P F H:Hp} {xs:List DV} {vs:List V} (h:DVs K P F H xs vs):xs.length=vs.length:=by
  induction h with
  | nil=>rfl
  | cons _ _ _ ih=>exact congrArg Nat.succ ih
theorem DVs.get {K:PySem.W.Frag} {P F H:Hp} {xs:List DV} {vs:List V} {i:Nat} {x:DV} (h:DVs K P F H xs vs) (e:xs[i]?=some x):isOwn x=false∧∃ v,vs[i]?=some v∧DVRep K P F H anyA x v:=by
  induction h generalizing i with
  | nil=>exact nomatch e
  | cons h r _ ih=>
    cases i with
    | zero=>obtain rfl:=Option.some.inj e; exact ⟨h,_,rfl,r⟩
    | succ i=>exact ih e
noncomputable def spD (K:PySem.W.Frag) (m:List DV→Option DV):Sp:=fun vs H Q _=>∃ P F xs x,m xs=some x∧DHp P F H∧DVs K P F H xs vs∧∀ v F' H',Same F F'→DHp P F' H'→DVRep K P F' H' anyA x v→Q v H'
noncomputable def startD (n p:Nat) (xs:List DV):DF:=xs.map some++List.replicate (n - p) none
noncomputable def retOf:Option RES→Option DV
  | some (.rt x _)=>some x
  | some (.nx _)=>some (.v .non)
  | _=>none
noncomputable def mOf (n p:Nat) (g:DF→Option RES):List DV→Option DV:=fun xs=>if xs.length=p then retOf (g (startD n p xs)) else none
theorem startD_get {n p:Nat} {xs:List DV} {i:Nat} {x:DV} (h:(startD n p xs)[i]?=some (some x)):xs[i]?=some x:=by
  unfold startD at h
  by_cases hi:i < xs.length
  · rw [List.getElem?_append_left (by simpa using hi),List.getElem?_map] at h
    cases q:xs[i]? with
    | none=>rw [q] at h; cases h
    | some y=>rw [q] at h; cases h; rfl
  · rw [List.getElem?_append_right (by simpa using hi),List.getElem?_replicate] at h
    split at h <;> cases h
theorem start_get {N:List Str} {vs:List V} {i:Nat} {v:V} (h:vs[i]?=some v):(start N vs)[i]?=some (some v):=by
  unfold start
  have hi:i < vs.length:=(List.getElem?_eq_some_iff.mp h).1
  rw [List.getElem?_append_left (by simpa using hi),List.getElem?_map,h]
  rfl
theorem DInv.start {K:PySem.W.Frag} {P F H:Hp} {xs:List DV} {vs:List V} (N:List Str) (p:Nat) (h:DHp P F H) (r:DVs K P F H xs vs) (hp:xs.length=p):DInv K P F H (startD N.length p xs) (start N vs):=by
  refine ⟨h,?_,fun _=>none,fun i x e=>?_⟩
  · unfold startD L2.start
    rw [List.length_append,List.length_append,List.length_map,List.length_map,List.length_replicate,List.length_replicate,r.length,← r.length,hp]
  · obtain ⟨ho,v,h1,h2⟩:=r.get (startD_get e)
    refine ⟨v,start_get h1,?_⟩
    cases x with
    | own o t=>cases ho
    | v d=>exact h2
    | bor o=>exact h2
theorem Fun.okD {P:Program} {w:World} {K:PySem.W.Frag} {mg:Str→Option Value} {base:Heap} {x qual:Str} {st:Stmt} {f:Addr} {fd:FuncData} {N ps:List Str} {k:Nat} {g:DF→Option RES} (F:Fun K x qual st f fd) (S:FnScope N ps (defScope st))
    (hbody:∀ (cdv:Value) (A:Around) (outer:List Env) (s:Shared) (H:Hp) (E:XK),Room k (A.deeper (envOfC qual (defScope st) s.heap.objs.size f cdv))→
      PDS (cxOf CX0 P w K mg base N qual (defScope st) f cdv A outer s H E).nox (defBody st) g):FnOk P w K mg base CX0 (k + 1) f fd ps (spD K (mOf N.length ps.length g)):=by
  have lens:∀ vs H Q E,spD K (mOf N.length ps.length g) vs H Q E→vs.length=ps.length:=fun vs H Q E hh_=>by
    obtain ⟨P',F',xs,x',hm,hp,hv,_⟩:=hh_
    unfold mOf at hm
    split at hm
    · rename_i h; rw [← hv.length]; exact h
    · cases hm
  refine F.ok S lens fun cdv A outer s H vs Q E hr h=>?_
  refine ⟨_,hbody cdv A outer s H E hr,?_⟩
  obtain ⟨P',F',xs,x',hm,hp,hv,hQ⟩:=h
  unfold mOf at hm
  split at hm
  · rename_i hl
    have I:DInv K P' F' H (startD N.length ps.length xs) (start N vs):=DInv.start N ps.length hp hv hl
    cases q:g (startD N.length ps.length xs) with
    | none=>rw [q] at hm; cases hm
    | some r=>
      rw [q] at hm
      refine ⟨P',F',_,r,q,I,?_⟩
      cases r with
      | rt y ρ=>cases hm; exact fun v σ F2 H2 e h r=>hQ v F2 H2 e h.toDHp r
      | nx ρ=>cases hm; exact fun σ F2 H2 e I2=>hQ .non F2 H2 e I2.toDHp .non
      | bk ρ=>cases hm
      | ct ρ=>cases hm
  · cases hm
inductive ArgsS (K:PySem.W.Frag) (ρ:DF) (σ:St) (F:Hp):List DV→List V→Prop
  | nil:ArgsS K ρ σ F [] []
  | v {d:D} {v:V} {xs:List DV} {vs:List V}:Rep K F v d→ArgsS K ρ σ F xs vs→ArgsS K ρ σ F (.v d::xs) (v::vs)
  | b {o:OD} {v:V} {xs:List DV} {vs:List V} (i:Nat):σ[i]?=some (some v)→((∃ t,ρ[i]?=some (some (.own o t)))∨ρ[i]?=some (some (.bor o)))→ArgsS K ρ σ F xs vs→ArgsS K ρ σ F (.bor o::xs) (v::vs)
theorem ArgsS.dvs {K:PySem.W.Frag} {P F H:Hp} {ρ:DF} {σ:St} (I:DInv K P F H ρ σ) {xs:List DV} {vs:List V} (h:ArgsS K ρ σ F xs vs):DVs K (gd F H) F H xs vs:=by
  induction h with
  | nil=>exact .nil
  | v h _ ih=>exact .cons rfl h ih
  | b i h1 h2 _ ih=>
    obtain ⟨a,rfl,h3⟩:=I.slot h1 h2
    exact .cons rfl ⟨a,rfl,h3.mono (Same.refl _) fun b u q hb=>⟨gd_eq.mpr ⟨q,hb⟩,trivial⟩⟩ ih
noncomputable def tLV (K:PySem.W.Frag) (f:DF→Option (List DV)):TA:=fun σ H Q=>∃ P F ρ xs,f ρ=some xs∧DInv K P F H ρ σ∧∀ vs F' H',Evo P F H F' H'→ArgsS K ρ σ F' xs vs→Q vs H'
noncomputable def PDAV (X:Cx) (es:List Expr) (f:DF→Option (List DV)):Prop:=PA X es (tLV X.K f)
section
variable {X:Cx} {e:Expr} {es:List Expr} {pos:Pos}
theorem pdv_nil:PDAV X [] (fun _=>some []):=PA.imp pa_nil fun σ H Q=>un7 fun P F ρ xs hf I k=>by
  cases hf
  exact k [] F H (Evo.refl I.toDHp) .nil
noncomputable def aV (f:DF→Option D) (g:DF→Option (List DV)):DF→Option (List DV):=fun ρ=>(f ρ).bind fun d=>(g ρ).map fun xs=>.v d::xs
theorem pdv_v {f:DF→Option D} {g:DF→Option (List DV)} (h:PDE X e f) (hr:PDAV X es g) (hs:starEach (e::es) X.env=(false,eval e X.env)::starEach es X.env:=by rfl):PDAV X (e::es) (aV f g):=PA.imp (pa_cons h hr hs) fun σ H Q=>un7 fun P F ρ xs hf I k=>by
  unfold aV at hf
  cases q:f ρ with
  | none=>rw [q] at hf; cases hf
  | some d=>
    rw [q,Option.bind_some] at hf
    cases q2:g ρ with
    | none=>rw [q2] at hf; cases hf
    | some ys=>
      rw [q2] at hf
      cases hf
      exact ⟨P,F,ρ,d,q,I,fun v F1 H1 e1 r1=>⟨P,F1,ρ,ys,q2,I.evo e1,fun vs F2 H2 e2 r2=>k (v::vs) F2 H2 (e1.trans e2) (.v (r1.same e2.ext) r2)⟩⟩
noncomputable def aB (i:Nat) (g:DF→Option (List DV)):DF→Option (List DV):=fun ρ=>match ρ[i]? with
  | some (some (.own o _))=>(g ρ).map fun xs=>.bor o::xs
  | some (some (.bor o))=>(g ρ).map fun xs=>.bor o::xs
  | some (some (.v d))=>(g ρ).map fun xs=>.v d::xs
  | _=>none
theorem pdv_b (i:Nat) {g:DF→Option (List DV)} (h:PE X e (tVar i)) (hr:PDAV X es g) (hs:starEach (e::es) X.env=(false,eval e X.env)::starEach es X.env:=by rfl):PDAV X (e::es) (aB i g):=PA.imp (pa_cons h hr hs) fun σ H Q=>un7 fun P F ρ xs hf I k=>by
  unfold aB at hf
  split at hf
  · rename_i o t q
    obtain ⟨v,h1,h2⟩:=I.at q
    cases q2:g ρ with
    | none=>rw [q2] at hf; cases hf
    | some ys=>
      rw [q2] at hf
      cases hf
      exact ⟨v,h1,P,F,ρ,ys,q2,I,fun vs F2 H2 e2 r2=>k (v::vs) F2 H2 e2 (.b i h1 (.inl ⟨t,q⟩) r2)⟩
  · rename_i o q
    obtain ⟨v,h1,h2⟩:=I.at q
    cases q2:g ρ with
    | none=>rw [q2] at hf; cases hf
    | some ys=>
      rw [q2] at hf
      cases hf
      exact ⟨v,h1,P,F,ρ,ys,q2,I,fun vs F2 H2 e2 r2=>k (v::vs) F2 H2 e2 (.b i h1 (.inr q) r2)⟩
  · rename_i d q
    obtain ⟨v,h1,h2⟩:=I.at q
    cases q2:g ρ with
    | none=>rw [q2] at hf; cases hf
    | some ys=>
      rw [q2] at hf
      cases hf
      exact ⟨v,h1,P,F,ρ,ys,q2,I,fun vs F2 H2 e2 r2=>k (v::vs) F2 H2 e2 (.v (Rep.same e2.ext h2) r2)⟩
  · cases hf
noncomputable def dvD:DV→Option D
  | .v d=>some d
  | .own o _=>some o.d
  | .bor _=>none
noncomputable def callV (m:List DV→Option DV) (g:DF→Option (List DV)):DF→Option D:=fun ρ=>(g ρ).bind fun xs=>(m xs).bind dvD
noncomputable def dvO:DV→Option OD
  | .own o _=>some o
  | _=>none
noncomputable def callO (m:List DV→Option DV) (g:DF→Option (List DV)):DF→Option OD:=fun ρ=>(g ρ).bind fun xs=>(m xs).bind dvO
theorem gd_new {F H:Hp} {F':Hp} {a:Addr} (e:Same F F') (h1:F' a=none) (h2:gd F H a=none):H a=none:=by
  unfold gd at h2
  have:F a=none:=by
    cases q:F a with
    | none=>rfl
    | some o=>rw [e a o q] at h1; cases h1
  rw [this] at h2
  exact h2
theorem ret_own {K:PySem.W.Frag} {F1 H1 F2 H2:Hp} {o:OD} {a:Addr} (e2:Same F1 F2) (h:ORep K F2 H2 (fun b=>F2 b=none∧gd F1 H1 b=none∧anyA b) o a):ORep K F2 H2 (fun b=>H1 b=none∧F2 b=none) o a:=
  h.mono (Same.refl _) fun b u q hb=>⟨hb,gd_new e2 q.1 q.2.1,q.1⟩
theorem tCall_v {K:PySem.W.Frag} {m:List DV→Option DV} {g:DF→Option (List DV)} {E:XK}:∀ σ H Q,tD K (callV m g) σ H Q→tCall (spD K m) [] E (tLV K g) σ H Q:=fun σ H Q=>un7 fun P F ρ d hf I k=>by
  unfold callV at hf
  cases q:g ρ with
  | none=>rw [q] at hf; cases hf
  | some xs=>
    rw [q,Option.bind_some] at hf
    cases q2:m xs with
    | none=>rw [q2] at hf; cases hf
    | some x=>
      rw [q2,Option.bind_some] at hf
      refine ⟨P,F,ρ,xs,q,I,fun vs F1 H1 e1 r1=>?_⟩
      have I1:=I.evo e1
      refine ⟨gd F1 H1,F1,xs,x,q2,gd_hp I1.sub,by rw [List.append_nil]; exact r1.dvs I1,fun v F2 H2 e2 hp2 r2=>?_⟩
      have ev:Evo P F1 H1 F2 H2:=I1.toDHp.gd e2 hp2
      cases x with
      | v d'=>cases hf; exact k v F2 H2 (e1.trans ev) r2
      | own o t=>
        cases hf
        obtain ⟨a,rfl,ho,_⟩:=r2
        have ho':=ret_own e2 ho
        exact k _ _ H2 (e1.trans (ev.freeze I1.toDHp (fun b=>H1 b=none∧F2 b=none) fun _ q=>q)) (ho'.rep (frzH_same fun b q=>q.2) fun b u q hb=>by rw [frzH_yes q]; exact hb)
      | bor o=>cases hf
theorem tCall_o {K:PySem.W.Frag} {m:List DV→Option DV} {g:DF→Option (List DV)} {E:XK}:∀ σ H Q,tO K (callO m g) σ H Q→tCall (spD K m) [] E (tLV K g) σ H Q:=fun σ H Q=>un7 fun P F ρ d hf I k=>by
  unfold callO at hf
  cases q:g ρ with
  | none=>rw [q] at hf; cases hf
  | some xs=>
    rw [q,Option.bind_some] at hf
    cases q2:m xs with
    | none=>rw [q2] at hf; cases hf
    | some x=>
      rw [q2,Option.bind_some] at hf
      refine ⟨P,F,ρ,xs,q,I,fun vs F1 H1 e1 r1=>?_⟩
      have I1:=I.evo e1
      refine ⟨gd F1 H1,F1,xs,x,q2,gd_hp I1.sub,by rw [List.append_nil]; exact r1.dvs I1,fun v F2 H2 e2 hp2 r2=>?_⟩
      have ev:Evo P F1 H1 F2 H2:=I1.toDHp.gd e2 hp2
      cases x with
      | own o t=>
        cases hf
        obtain ⟨a,rfl,ho,_⟩:=r2
        exact k a F2 H2 (e1.trans ev) ((ret_own e2 ho).mono (Same.refl _) fun b u q hb=>⟨hb,e1.back I.toDHp q.1,q.2⟩)
      | _=>cases hf
section
variable {k:Nat} {f:Addr} {fd:FuncData} {ps:List Str} {m:List DV→Option DV} {x:Str} {p:Pos} {g:DF→Option (List DV)}
theorem pd_call (F:FnOk X.prog X.w X.K X.mg X.base CX0 k f fd ps (spD X.K m)) (hr:Room k X.A) (hg:Gl X x) (hm:X.mg x=some (.ref f)) (hk:PySem.W.keepIn X.K (.ref f)=true) (hb:Binds X.K fd ps []) (ha:PDAV X (e::es) g)
    (hd:(x == ("__debug__":Str))=false:=by decide) (he:starEach (e::es) X.env=(false,eval e X.env)::starEach es X.env:=by rfl) (hpl:(backTo pos (starEach es X.env)).any (·.1)=false:=by rfl):PDE X (.Call (.Name x p) (e::es) [] pos) (callV m g):=
  (pe_call F hr hg hm hk hb .nil pass0 ha hd he hpl).imp tCall_v
theorem pdo_call (F:FnOk X.prog X.w X.K X.mg X.base CX0 k f fd ps (spD X.K m)) (hr:Room k X.A) (hg:Gl X x) (hm:X.mg x=some (.ref f)) (hk:PySem.W.keepIn X.K (.ref f)=true) (hb:Binds X.K fd ps []) (ha:PDAV X (e::es) g)
    (hd:(x == ("__debug__":Str))=false:=by decide) (he:starEach (e::es) X.env=(false,eval e X.env)::starEach es X.env:=by rfl) (hpl:(backTo pos (starEach es X.env)).any (·.1)=false:=by rfl):PDO X (.Call (.Name x p) (e::es) [] pos) (callO m g):=
  (pe_call F hr hg hm hk hb .nil pass0 ha hd he hpl).imp tCall_o
end
end
noncomputable def capV:Option DV→Option DV
  | some (.v d)=>some (.v d)
  | some (.own o _)=>some (.bor o)
  | some (.bor o)=>some (.bor o)
  | _=>none
noncomputable def capD (own:Nat) (ix:List Nat) (ρ:DF):DF:=List.replicate own none++ix.map fun j=>capV (ρ[j]?).join
noncomputable def mapD (st:D→DF→Option DF) (c:DF→Option Bool) (e:DF→Option D) (ρ:DF):List D→Option (List D)
  | []=>some []
  | d::ds=>(st d ρ).bind fun ρ1=>(c ρ1).bind fun b=>if b=true then (e ρ1).bind fun y=>(mapD st c e ρ ds).map fun r=>y::r else mapD st c e ρ ds
noncomputable def dComp (own:Nat) (ix:List Nat) (it:DF→Option (List D)) (st:D→DF→Option DF) (c:DF→Option Bool) (e:DF→Option D):DF→Option (List D):=
  fun ρ=>(it ρ).bind fun ds=>if ds.length≤16777216 then mapD st c e (capD own ix ρ) ds else none
noncomputable def dYes:DF→Option Bool:=fun _=>some true
theorem capD_get {own:Nat} {ix:List Nat} {ρ:DF} {i:Nat} {x:DV} (h:(capD own ix ρ)[i]?=some (some x)):own≤i∧∃ j y,ix[i - own]?=some j∧ρ[j]?=some (some y)∧capV (some y)=some x:=by
  unfold capD at h
  by_cases hi:i < own
  · rw [List.getElem?_append_left (by rw [List.length_replicate]; exact hi),List.getElem?_replicate,if_pos hi] at h
    cases h
  · rw [List.getElem?_append_right (by rw [List.length_replicate]; omega),List.length_replicate,List.getElem?_map] at h
    refine ⟨by omega,?_⟩
    cases q:ix[i - own]? with
    | none=>rw [q] at h; cases h
    | some j=>
      rw [q,Option.map_some] at h
      have h':=Option.some.inj h
      cases q2:ρ[j]? with
      | none=>rw [q2] at h'; cases h'
      | some o=>
        rw [q2,Option.join_some] at h'
        cases o with
        | none=>cases h'
        | some y=>exact ⟨j,y,rfl,q2,h'⟩
theorem capSt_at {own:Nat} {ix:List Nat} {σ:St} {i j:Nat} {v:V} (hi:own≤i) (h:ix[i - own]?=some j) (hv:σ[j]?=some (some v)):(capSt own ix σ)[i]?=some (some v):=by
  unfold capSt
  rw [List.getElem?_append_right (by rw [List.length_replicate]; exact hi),List.length_replicate,List.getElem?_map,h,Option.map_some,hv]
  rfl
theorem DInv.cap {K:PySem.W.Frag} {P F H:Hp} {ρ:DF} {σ:St} (I:DInv K P F H ρ σ) (own:Nat) (ix:List Nat):DInv K (gd F H) F H (capD own ix ρ) (capSt own ix σ):=by
  refine ⟨gd_hp I.sub,?_,fun _=>none,fun i x h=>?_⟩
  · rw [capSt_len]
    unfold capD
    rw [List.length_append,List.length_replicate,List.length_map]
  · obtain ⟨hi,j,y,h1,h2,h3⟩:=capD_get h
    obtain ⟨v,q1,q2⟩:=I.at h2
    refine ⟨v,capSt_at hi h1 q1,?_⟩
    have bo:∀ o,((∃ t,ρ[j]?=some (some (.own o t)))∨ρ[j]?=some (some (.bor o)))→DVRep K (gd F H) F H (fun b=>none=some i) (.bor o) v:=fun o ho=>by
      obtain ⟨a,rfl,h3⟩:=I.slot q1 ho
      exact ⟨a,rfl,h3.mono (Same.refl _) fun b u q hb=>⟨gd_eq.mpr ⟨q,hb⟩,trivial⟩⟩
    cases y with
    | v d=>cases h3; exact q2
    | own o t=>cases h3; exact bo o (.inl ⟨t,h2⟩)
    | bor o=>cases h3; exact bo o (.inr h2)
theorem cap_keep {K:PySem.W.Frag} {G F H F2 H2:Hp} {own:Nat} {ix:List Nat} {ρ:DF} {τ:St} (B:DInv K G F H (capD own ix ρ) τ) (e:Same F F2) (hp:DHp G F2 H2):DInv K G F2 H2 (capD own ix ρ) τ:=by
  obtain ⟨O,h⟩:=B.rep
  refine ⟨hp,B.len,O,fun i x hx=>?_⟩
  obtain ⟨v,h1,h2⟩:=h i x hx
  refine ⟨v,h1,?_⟩
  cases x with
  | v d=>exact Rep.same e h2
  | bor o=>obtain ⟨a,rfl,h3⟩:=h2; exact ⟨a,rfl,h3.mono e fun b u q hb=>⟨hb,q⟩⟩
  | own o t=>(obtain ⟨_,j,y,_,_,h3⟩:=capD_get hx; cases y <;> cases h3)
section
variable {X:Cx} {elt tg iter:Expr} {ifs:List Expr} {scope:Scope} {pos:Pos} {N:List Str} {own:Nat} {ix is:List Nat} {f:DF→Option (List D)} {st:D→DF→Option DF} {c:DF→Option Bool} {e:DF→Option D}
theorem tO_comp {K:PySem.W.Frag} (his:∀ j∈is,j < own):∀ σ H Q,tO K (asL (dComp own ix f st c e)) σ H Q→tComp own ix (tI K f) (tG K is st) (tB' K c) (tD K e) σ H Q:=fun σ H Q=>un7 fun P F ρ ob hf I k=>by
  unfold asL at hf
  cases hout:dComp own ix f st c e ρ with
  | none=>rw [hout] at hf; cases hf
  | some out=>
  rw [hout] at hf
  cases hf
  have hf:=hout
  unfold dComp at hf
  cases q:f ρ with
  | none=>rw [q] at hf; cases hf
  | some ds=>
    rw [q,Option.bind_some] at hf
    split at hf
    rotate_left
    · cases hf
    rename_i hlen
    refine ⟨P,F,ρ,ds,q,I,fun J F1 H1 ev ok acc hacc=>?_⟩
    have I1:=I.evo ev
    have hp1:DHp (gd F1 H1) F1 H1:=gd_hp I1.sub
    have hg:gd F1 H1 acc=none:=by unfold gd; rw [I1.sub.free hacc]; exact hacc
    have B1:DInv K (gd F1 H1) F1 H1 (capD own ix ρ) (capSt own ix σ):=I1.cap own ix
    have hP:∀ {F' H':Hp},Same F1 F'→DHp (gd F1 H1) F' H'→DHp P F' H':=fun s h=>(I1.toDHp.gd s h).hp
    refine ⟨fun i m ys H'=>m=ds.length - i∧i≤ds.length∧∃ F',Same F1 F'∧DHp (gd F1 H1) F' H'∧F' acc=none∧H' acc=some (.lst ys)∧ys.length≤i∧∃ pre,Reps K F' ys pre∧(mapD st c e (capD own ix ρ) (ds.drop i)).map (fun r=>pre++r)=some out,
      ⟨_,rfl,Nat.zero_le _,F1,Same.refl _,(Evo.side hp1 hacc).hp,I1.sub.free hacc,upd_same,Nat.le_refl _,[],.nil,by rw [List.drop_zero,hf]; rfl⟩,?_⟩
    rintro i m ys H' ⟨rfl,hi,F',se,hp',fa,ha,hy,pre,rp,hm⟩
    obtain ⟨ok1,ok2⟩:=ok F' H' se (hP se hp') i
    by_cases hlt:i < ds.length
    · have hd:ds[i]?=some ds[i]:=List.getElem?_eq_getElem hlt
      obtain ⟨go,yl⟩:=ok1 _ hd
      have hdrop:ds.drop i=ds[i]::ds.drop (i + 1):=List.drop_eq_getElem_cons hlt
      rw [hdrop] at hm
      unfold mapD at hm
      cases hst:st ds[i] (capD own ix ρ) with
      | none=>rw [hst] at hm; cases hm
      | some ρ1=>
        rw [hst,Option.bind_some] at hm
        refine .inr ⟨go,fun ys' H2=>∃ F2,Same F1 F2∧DHp (gd F1 H1) F2 H2∧F2 acc=none∧H2 acc=some (.lst ys')∧ys'.length≤i + 1∧∃ pre',Reps K F2 ys' pre'∧(mapD st c e (capD own ix ρ) (ds.drop (i + 1))).map (fun r=>pre'++r)=some out,
          fun ys' H2 h=>⟨ds.length - (i + 1),by omega,rfl,hlt,h⟩,fun x H2 hyl=>?_⟩
        obtain ⟨F2,ev2,rx⟩:=yl x H2 hyl
        have ev2':Evo (gd F1 H1) F' H' F2 H2:=ev2.change hp'
        obtain ⟨a2,fa2⟩:=ev2'.keep acc _ ha fa
        have B2:DInv K (gd F1 H1) F2 H2 (capD own ix ρ) (capSt own ix σ):=cap_keep B1 (se.trans ev2.ext) ev2'.hp
        refine ⟨gd F1 H1,F2,capD own ix ρ,ds[i],ρ1,hst,B2,rx,fun σ3 F3 H3 ev3 I3 hl3 hσ=>?_⟩
        refine ⟨⟨?_,fun j v hj=>?_⟩,?_⟩
        · rw [hl3,capSt_len]
        · rw [hσ j]
          · exact hj
          · intro hj'
            obtain ⟨ho,_⟩:=capSt_get hj
            have:=his j hj'
            omega
        obtain ⟨a3,fa3⟩:=ev3.keep acc _ a2 fa2
        cases hc:c ρ1 with
        | none=>rw [hc] at hm; cases hm
        | some b=>
          rw [hc,Option.bind_some] at hm
          refine ⟨gd F1 H1,F3,ρ1,b,hc,I3,fun F4 H4 ev4=>?_⟩
          obtain ⟨a4,fa4⟩:=ev4.keep acc _ a3 fa3
          have s14:Same F' F4:=ev2.ext.trans (ev3.ext.trans ev4.ext)
          cases b with
          | false=>
            rw [if_neg Bool.false_ne_true] at hm ⊢
            exact ⟨F4,se.trans s14,ev4.hp,fa4,a4,by omega,pre,rp.same s14,hm⟩
          | true=>
            rw [if_pos rfl] at hm ⊢
            cases he:e ρ1 with
            | none=>rw [he] at hm; cases hm
            | some y=>
              rw [he,Option.bind_some] at hm
              refine ⟨gd F1 H1,F4,ρ1,y,he,I3.evo ev4,fun v F5 H5 ev5 rv=>?_⟩
              obtain ⟨a5,fa5⟩:=ev5.keep acc _ a4 fa4
              have s15:Same F' F5:=s14.trans ev5.ext
              refine ⟨a5,by rw [sizeLine_eq]; omega,F5,se.trans s15,⟨fun b u h=>by rw [upd_ne (ne_of_none h fa5)]; exact ev5.hp.sub b u h,fun b u h=>by rw [upd_ne (ne_of_none h hg)]; exact ev5.hp.pro b u h,ev5.hp.dis⟩,fa5,upd_same,by rw [List.length_append,List.length_singleton]; omega,pre++[y],(rp.same s15).append (.one rv),?_⟩
              cases hmm:mapD st c e (capD own ix ρ) (ds.drop (i + 1)) with
              | none=>rw [hmm] at hm; cases hm
              | some r=>
                rw [hmm] at hm
                simp only [Option.map_some] at hm ⊢
                rw [List.append_assoc]
                exact hm
    · have hz:ds.drop i=[]:=List.drop_eq_nil_of_le (by omega)
      rw [hz] at hm
      unfold mapD at hm
      rw [Option.map_some,List.append_nil] at hm
      cases hm
      exact .inl ⟨ok2 (by omega),k acc F' H' (ev.trans (I1.toDHp.gd se hp')) ⟨⟨ev.back I.toDHp hacc,fa⟩,_,ha,rp⟩⟩
theorem pdo_comp (hcalm:X.calm=true) (b:BlkScope X scope) (cp:Caps X scope N own ix) (his:∀ j∈is,j < own) (hi:PDI X tg iter f)
    (hg:∀ s H fp pins,PDG (blk X scope N s H fp pins) tg is st) (hc:∀ s H fp pins,PIfs (blk X scope N s H fp pins) ifs (tB' X.K c)) (he:∀ s H fp pins,PDE (blk X scope N s H fp pins) elt e)
    (hnames:∀ y∈scope.names,y.2=.local→scope.names.lookup y.1=some .local:=by decide)
    (hs:∀ x,foldedSetIterable iter X.env x=pure x:=by intro _; rfl):PDO X (.ListComp elt [⟨tg,iter,ifs,0⟩] scope pos) (asL (dComp own ix f st c e)):=
  (pe_comp (g:=tG X.K is st) (tc:=tB' X.K c) (te:=tD X.K e) hcalm b cp hi hg hc he hnames hs).imp (tO_comp his)
end
section
variable {X:Cx} {e a b c:Expr} {es:List Expr} {pos:Pos}
noncomputable def LenIs (n:Nat) (f:DF→Option (List D)):Prop:=∀ ρ ds,f ρ=some ds→ds.length=n
noncomputable def PDL (X:Cx) (es:List Expr) (n:Nat) (f:DF→Option (List D)):Prop:=PDA X es f∧LenIs n f
noncomputable def lnil:DF→Option (List D):=fun _=>some []
noncomputable def lcons (f:DF→Option D) (g:DF→Option (List D)):DF→Option (List D):=fun ρ=>(f ρ).bind fun d=>(g ρ).map fun r=>d::r
theorem pdl_nil:PDL X [] 0 lnil:=⟨PA.imp pa_nil fun σ H Q=>un7 fun P F ρ xs hf I k=>by
  cases hf
  exact k [] F H (Evo.refl I.toDHp) .nil,fun ρ ds h=>by cases h; rfl⟩
theorem pdl_cons {f:DF→Option D} {n:Nat} {g:DF→Option (List D)} (h:PDE X e f) (hr:PDL X es n g) (hs:starEach (e::es) X.env=(false,eval e X.env)::starEach es X.env:=by rfl):PDL X (e::es) (n + 1) (lcons f g):=
  ⟨PA.imp (pa_cons h hr.1 hs) fun σ H Q=>un7 fun P F ρ xs hf I k=>by
    unfold lcons at hf
    cases q:f ρ with
    | none=>rw [q] at hf; cases hf
    | some d=>
      rw [q,Option.bind_some] at hf
      cases q2:g ρ with
      | none=>rw [q2] at hf; cases hf
      | some ys=>
        rw [q2] at hf
        cases hf
        exact ⟨P,F,ρ,d,q,I,fun v F1 H1 e1 r1=>⟨P,F1,ρ,ys,q2,I.evo e1,fun vs F2 H2 e2 r2=>k (v::vs) F2 H2 (e1.trans e2) (.cons (r1.same e2.ext) r2)⟩⟩,fun ρ ds hf=>by
    unfold lcons at hf
    cases q:f ρ with
    | none=>rw [q] at hf; cases hf
    | some d=>
      rw [q,Option.bind_some] at hf
      cases q2:g ρ with
      | none=>rw [q2] at hf; cases hf
      | some ys=>
        rw [q2] at hf
        cases hf
        rw [List.length_cons,hr.2 ρ ys q2]⟩
noncomputable def asT (f:DF→Option (List D)):DF→Option D:=fun ρ=>(f ρ).map .tup
theorem pd_tup {x1} {n:Nat} {f:DF→Option (List D)} (h:PDL X es n f) (hn:n≤16777216:=by decide):PDE X (.Tuple es x1 pos) (asT f):=(pe_tup h.1).imp fun σ H Q=>un7 fun P F ρ d hf I k=>by
  unfold asT at hf
  cases q:f ρ with
  | none=>rw [q] at hf; cases hf
  | some ds=>
    rw [q] at hf
    cases hf
    refine ⟨P,F,ρ,ds,q,I,fun vs F1 H1 e1 r1=>⟨by rw [r1.length,h.2 ρ ds q,sizeLine_eq]; exact hn,fun p hp=>?_⟩⟩
    exact k (.ref p) _ _ (e1.trans (Evo.laid e1.hp hp)) (.tup upd_same (r1.same (same_upd (e1.hp.free hp).1)))
theorem pdo_lst {n:Nat} {f:DF→Option (List D)} (h:PDL X es n f) (hn:n≤16777216:=by decide):PDO X (.List es pos) (asL f):=(pe_lst h.1).imp fun σ H Q=>un7 fun P F ρ ob hf I k=>by
  unfold asL at hf
  cases q:f ρ with
  | none=>rw [q] at hf; cases hf
  | some ds=>
  rw [q] at hf
  cases hf
  refine ⟨P,F,ρ,ds,q,I,fun vs F1 H1 e1 r1=>⟨by rw [r1.length,h.2 ρ ds q,sizeLine_eq]; exact hn,fun p hp=>?_⟩⟩
  exact k p F1 _ (e1.trans (Evo.side e1.hp hp)) ⟨⟨e1.back I.toDHp hp,(e1.hp.free hp).1⟩,_,upd_same,r1⟩
theorem Reps.atI {K:PySem.W.Frag} {F:Hp} {vs:List V} {ds:List D} {i:Int} {d:D} (r:Reps K F vs ds) (h:atI ds i=some d):∃ v,atI vs i=some v∧Rep K F v d:=by
  unfold L2.atI at h ⊢
  rw [r.length]
  cases q:ixN ds.length i with
  | none=>rw [q] at h; cases h
  | some j=>
    rw [q,Option.bind_some] at h
    obtain ⟨v,h1,h2⟩:=r.get h
    exact ⟨v,h1,h2⟩
noncomputable def ixD:D→D→Option D
  | .lst ds,.int i=>atI ds i
  | .tup ds,.int i=>atI ds i
  | .str z,.int i=>if z.length≤16777216 then (atI z.cps.toList i).map fun c=>.str ⟨#[c]⟩ else none
  | _,_=>none
theorem od_ix {K:PySem.W.Frag}:OpD2 K (rIx K) ixD:=by
  intro P F H ρ σ x y dx dy d Q hf I rx ry k
  unfold ixD at hf
  split at hf
  · obtain ⟨p,vs,rfl,h1,h2⟩:=rep_lst I rx
    obtain ⟨v,h3,h4⟩:=h2.atI hf
    exact .inl ⟨p,vs,_,v,rfl,rep_int ry,h1,h3,k v F H (Evo.refl I.toDHp) h4⟩
  · obtain ⟨p,vs,rfl,h1,h2⟩:=rep_tup I rx
    obtain ⟨v,h3,h4⟩:=h2.atI hf
    exact .inr (.inl ⟨p,vs,_,v,rfl,rep_int ry,h1,h3,k v F H (Evo.refl I.toDHp) h4⟩)
  · split at hf
    · rename_i z i hz
      cases q:atI z.cps.toList i with
      | none=>rw [q] at hf; cases hf
      | some c=>
        rw [q] at hf
        cases hf
        exact .inr (.inr ⟨z,i,c,rep_str rx,rep_int ry,by rw [sizeLine_eq]; exact hz,q,k _ F H (Evo.refl I.toDHp) .str⟩)
    · cases hf
  · cases hf
theorem pd_ix {fa fb:DF→Option D} (ha:PDR X a fa) (hb:PDR X b fb) (hs:PlainIx b:=by exact fun _ _=>rfl):PDE X (.Subscript a b pos) (d2 ixD fa fb):=(pe_ix ix_seq ha hb hs).imp (tOp_d2 od_ix)
noncomputable def rAddD:R2:=fun x y H Q=>(∃ i j,x=.int i∧y=.int j∧Q (.int (i + j)) H)∨∃ i j,x=.str i∧y=.str j∧i.length + j.length≤sizeLine∧Q (.str (i++j)) H
theorem pt_gt {fa fb:DF→Option D} (ha:PDR X a fa) (hb:PDR X b fb):PDT X (.Compare a [.Gt] [b] pos) (asB (d2 gtI fa fb)):=pt_cmpD op_gt (od_int0 fun _ _ _=>.bl) ha hb (nomark _)
noncomputable def andT (f g:DF→Option Bool):DF→Option Bool:=fun ρ=>(f ρ).bind fun b=>if b=true then g ρ else some false
noncomputable def orT (f g:DF→Option Bool):DF→Option Bool:=fun ρ=>(f ρ).bind fun b=>if b=true then some true else g ρ
noncomputable def notT (f:DF→Option Bool):DF→Option Bool:=fun ρ=>(f ρ).map fun b=>!b
noncomputable def PDW (X:Cx) (e:Expr) (f:DF→Option Bool):Prop:=PW X e (tB' X.K f)
theorem PDW.t {f:DF→Option Bool} (h:PDW X e f):PDT X e f:=PW.pt h
theorem PW.imp {t t':TT} (h:PW X e t) (i:∀ σ H Q,t' σ H Q→t σ H Q):PW X e t':=fun w pins s σ H Q I q=>h w pins s σ H Q I (i σ H Q q)
theorem pw_and1D {f:DF→Option Bool} (h:PDT X a f):PDW X (.BoolOp .And [a] pos) f:=pw_and1 h
theorem pw_or1D {f:DF→Option Bool} (h:PDT X a f):PDW X (.BoolOp .Or [a] pos) f:=pw_or1 h
theorem pw_andD {rest:List Expr} {f g:DF→Option Bool} (ha:PDT X a f) (hb:PDW X (.BoolOp .And (b::rest) pos) g):PDW X (.BoolOp .And (a::b::rest) pos) (andT f g):=PW.imp (pw_and ha hb) fun σ H Q=>un7 fun P F ρ r hf I k=>by
  unfold andT at hf
  cases q:f ρ with
  | none=>rw [q] at hf; cases hf
  | some x=>
    rw [q,Option.bind_some] at hf
    refine ⟨P,F,ρ,x,q,I,fun F1 H1 e1=>?_⟩
    cases x with
    | true=>rw [if_pos rfl] at hf ⊢; exact ⟨P,F1,ρ,r,hf,I.evo e1,fun F2 H2 e2=>k F2 H2 (e1.trans e2)⟩
    | false=>rw [if_neg Bool.false_ne_true] at hf ⊢; cases hf; exact k F1 H1 e1
theorem pw_orD {rest:List Expr} {f g:DF→Option Bool} (ha:PDT X a f) (hb:PDW X (.BoolOp .Or (b::rest) pos) g):PDW X (.BoolOp .Or (a::b::rest) pos) (orT f g):=PW.imp (pw_or ha hb) fun σ H Q=>un7 fun P F ρ r hf I k=>by
  unfold orT at hf
  cases q:f ρ with
  | none=>rw [q] at hf; cases hf
  | some x=>
    rw [q,Option.bind_some] at hf
    refine ⟨P,F,ρ,x,q,I,fun F1 H1 e1=>?_⟩
    cases x with
    | true=>rw [if_pos rfl] at hf ⊢; cases hf; exact k F1 H1 e1
    | false=>rw [if_neg Bool.false_ne_true] at hf ⊢; exact ⟨P,F1,ρ,r,hf,I.evo e1,fun F2 H2 e2=>k F2 H2 (e1.trans e2)⟩
theorem pt_notD {f:DF→Option Bool} (ha:PDT X a f):PDT X (.UnaryOp .Not a pos) (notT f):=(pt_not ha).imp fun σ H Q=>un7 fun P F ρ r hf I k=>by
  unfold notT at hf
  cases q:f ρ with
  | none=>rw [q] at hf; cases hf
  | some x=>rw [q] at hf; cases hf; exact ⟨P,F,ρ,x,q,I,fun F1 H1 e1=>k F1 H1 e1⟩
noncomputable def andV (f g:DF→Option D):DF→Option D:=fun ρ=>match f ρ with
  | some (.bl true)=>g ρ
  | some (.bl false)=>some (.bl false)
  | _=>none
noncomputable def orV (f g:DF→Option D):DF→Option D:=fun ρ=>match f ρ with
  | some (.bl false)=>g ρ
  | some (.bl true)=>some (.bl true)
  | _=>none
noncomputable def notV (f:DF→Option D):DF→Option D:=fun ρ=>match f ρ with
  | some (.bl b)=>some (.bl (!b))
  | _=>none
theorem pd_one {op} {f:DF→Option D} (h:PDE X a f):PDE X (.BoolOp op [a] pos) f:=pe_one h
theorem pd_and {rest:List Expr} {f g:DF→Option D} (ha:PDE X a f) (hb:PDE X (.BoolOp .And (b::rest) pos) g):PDE X (.BoolOp .And (a::b::rest) pos) (andV f g):=(pe_and ha hb).imp fun σ H Q=>un7 fun P F ρ r hf I k=>by
  unfold andV at hf
  split at hf
  · rename_i q
    refine ⟨P,F,ρ,_,q,I,fun v F1 H1 e1 r1=>?_⟩
    cases r1
    exact ⟨true,rfl,by rw [if_pos rfl]; exact ⟨P,F1,ρ,r,hf,I.evo e1,fun v F2 H2 e2 r2=>k v F2 H2 (e1.trans e2) r2⟩⟩
  · rename_i q
    refine ⟨P,F,ρ,_,q,I,fun v F1 H1 e1 r1=>?_⟩
    cases r1
    cases hf
    exact ⟨false,rfl,by rw [if_neg Bool.false_ne_true]; exact k _ F1 H1 e1 .bl⟩
  · cases hf
theorem pd_not {f:DF→Option D} (ha:PDE X a f):PDE X (.UnaryOp .Not a pos) (notV f):=(pe_not ha).imp fun σ H Q=>un7 fun P F ρ r hf I k=>by
  unfold notV at hf
  split at hf
  · rename_i q
    cases hf
    refine ⟨P,F,ρ,_,q,I,fun v F1 H1 e1 r1=>?_⟩
    cases r1
    exact ⟨_,rfl,k _ F1 H1 e1 .bl⟩
  · cases hf
noncomputable def ifV (c:DF→Option Bool) (f g:DF→Option D):DF→Option D:=fun ρ=>(c ρ).bind fun b=>if b=true then f ρ else g ρ
theorem pd_ifE {fc:DF→Option Bool} {f g:DF→Option D} (hc:PDT X c fc) (ha:PDE X a f) (hb:PDE X b g):PDE X (.IfExp c a b pos) (ifV fc f g):=(pe_ifExp hc ha hb).imp fun σ H Q=>un7 fun P F ρ r hf I k=>by
  unfold ifV at hf
  cases q:fc ρ with
  | none=>rw [q] at hf; cases hf
  | some x=>
    rw [q,Option.bind_some] at hf
    refine ⟨P,F,ρ,x,q,I,fun F1 H1 e1=>?_⟩
    cases x with
    | true=>rw [if_pos rfl] at hf ⊢; exact ⟨P,F1,ρ,r,hf,I.evo e1,fun v F2 H2 e2 r2=>k v F2 H2 (e1.trans e2) r2⟩
    | false=>rw [if_neg Bool.false_ne_true] at hf ⊢; exact ⟨P,F1,ρ,r,hf,I.evo e1,fun v F2 H2 e2 r2=>k v F2 H2 (e1.trans e2) r2⟩
noncomputable def OpD1 (K:PySem.W.Frag) (r:List V→Hp→VK→Prop) (f:D→Option D):Prop:=
  ∀ (P F H:Hp) (ρ:DF) (σ:St) (x:V) (dx d:D) (Q:VK),f dx=some d→DInv K P F H ρ σ→RepS K H F x dx→(∀ v F' H',Evo P F H F' H'→Rep K F' v d→Q v H')→r [x] H Q
noncomputable def d1 (f:D→Option D) (fa:DF→Option D):DF→Option D:=fun ρ=>(fa ρ).bind f
theorem tCB_d1 {K:PySem.W.Frag} {r:List V→Hp→VK→Prop} {f:D→Option D} {fa:DF→Option D} (ho:OpD1 K r f):∀ σ H Q,tD K (d1 f fa) σ H Q→tCB r (tCons (tR K fa) tNil) σ H Q:=fun σ H Q=>un7 fun P F ρ d hf I k=>by
  unfold d1 at hf
  cases ha:fa ρ with
  | none=>rw [ha] at hf; cases hf
  | some dx=>
    rw [ha,Option.bind_some] at hf
    exact ⟨P,F,ρ,dx,ha,I,fun x F1 H1 e1 rx=>ho P F1 H1 ρ σ x dx d Q hf (I.evo e1) rx fun v F2 H2 e2 rv=>k v F2 H2 (e1.trans e2) rv⟩
noncomputable def lenD:D→Option D
  | .lst ds=>some (.int ds.length)
  | .tup ds=>some (.int ds.length)
  | .str z=>if z.length≤16777216 then some (.int z.length) else none
  | _=>none
noncomputable def rLenD (K:PySem.W.Frag):List V→Hp→VK→Prop:=fun xs H Q=>(∃ p ys,xs=[.ref p]∧(SqL K H p ys∨SqT K H p ys)∧Q (.int ys.length) H)∨∃ z,xs=[.str z]∧z.length≤sizeLine∧Q (.int z.length) H
end
mutual
noncomputable def toPy:D→PyData
  | .non=>.none
  | .bl b=>.bool b
  | .int i=>.int i
  | .str x=>.str x
  | .tup xs=>.tuple (toPys xs)
  | .lst xs=>.list (toPys xs)
  | .dT _=>.none
  | .dK _=>.none
  | .ins _ _=>.none
noncomputable def toPys:List D→List PyData
  | []=>[]
  | d::ds=>toPy d::toPys ds
end
noncomputable def okN:Nat→D→Bool
  | _,.non=>true
  | _,.bl _=>true
  | _,.int _=>true
  | _,.str x=>PyData.strOk x
  | n + 1,.tup xs=>xs.all (okN n)
  | n + 1,.lst xs=>xs.all (okN n)
  | _,_=>false
theorem okN_all {n:Nat}:∀ {ds:List D},ds.all (okN n)=true→∀ d∈ds,okN n d=true:=fun h d hd=>List.all_eq_true.mp h d hd
theorem okN_lay:∀ (n:Nat) (d:D),okN n d=true→(toPy d).canLay0=true∧(toPy d).depth≤n + 1:=by
  intro n
  induction n with
  | zero=>
    intro d h
    cases d with
    | non=>exact ⟨rfl,by simp [toPy,PyData.depth]⟩
    | bl b=>exact ⟨rfl,by simp [toPy,PyData.depth]⟩
    | int b=>exact ⟨rfl,by simp [toPy,PyData.depth]⟩
    | str b=>exact ⟨h,by simp [toPy,PyData.depth]⟩
    | _=>cases h
  | succ n ih=>
    have all:∀ ds:List D,ds.all (okN n)=true→PyData.canLayAll0 (toPys ds)=true∧PyData.depthAll (toPys ds)≤n + 1:=by
      intro ds
      induction ds with
      | nil=>intro _; exact ⟨rfl,by simp [toPys,PyData.depthAll]⟩
      | cons x r ihr=>
        intro h
        rw [List.all_cons,Bool.and_eq_true] at h
        obtain ⟨h1,h2⟩:=ih x h.1
        obtain ⟨h3,h4⟩:=ihr h.2
        refine ⟨?_,?_⟩
        · show (PyData.canLay0 (toPy x)&&PyData.canLayAll0 (toPys r))=true
          rw [h1,h3]; rfl
        · show PyData.depthAll (toPy x::toPys r)≤n + 1
          simp only [PyData.depthAll]
          omega
    intro d h
    cases d with
    | non=>exact ⟨rfl,by simp [toPy,PyData.depth]⟩
    | bl b=>exact ⟨rfl,by simp [toPy,PyData.depth]⟩
    | int b=>exact ⟨rfl,by simp [toPy,PyData.depth]⟩
    | str b=>exact ⟨h,by simp [toPy,PyData.depth]⟩
    | tup xs=>
      obtain ⟨h1,h2⟩:=all xs h
      exact ⟨h1,by simp only [toPy,PyData.depth]; omega⟩
    | lst xs=>
      obtain ⟨h1,h2⟩:=all xs h
      exact ⟨h1,by simp only [toPy,PyData.depth]; omega⟩
    | _=>cases h
section
variable {X:Cx} {pins:List (Addr×Obj)} {σ:St} {H:Hp} {s:Shared}
theorem Reps.readsOf {n:Nat} (ih:∀ {v:V} {d:D} {u:Value},Rep X.K H v d→okN n d=true→RelV v u→∃ as,Reads s.heap u (toPy d) as) {vs:List V} {ds:List D} (h:Reps X.K H vs ds):∀ us:List Value,(∀ d∈ds,okN n d=true)→Vals vs us→∃ as,ReadsAll s.heap us (toPys ds) as:=
  Reps.ind (M:=fun vs ds=>∀ us:List Value,(∀ d∈ds,okN n d=true)→Vals vs us→∃ as,ReadsAll s.heap us (toPys ds) as) (fun us _ r=>by cases r; exact ⟨_,.nil⟩) (fun h _ i us ho r=>by
    cases r with
    | cons r t=>
      obtain ⟨a1,r1⟩:=ih h (ho _ List.mem_cons_self) r
      obtain ⟨a2,r2⟩:=i _ (fun d hd=>ho d (List.mem_cons_of_mem _ hd)) t
      exact ⟨_,.cons r1 r2⟩) h
theorem Rep.reads1 (I:Inv X pins σ H s) (n:Nat) (ih:∀ m,n=m + 1→∀ {v:V} {d:D} {u:Value},Rep X.K H v d→okN m d=true→RelV v u→∃ as,Reads s.heap u (toPy d) as) {v:V} {d:D} {u:Value} (h:Rep X.K H v d) (ho:okN n d=true) (r:RelV v u):∃ as,Reads s.heap u (toPy d) as:=by
  cases h with
  | non=>cases (show u=Value.none from r); exact ⟨_,.none⟩
  | bl=>cases (show u=Value.bool _ from r); exact ⟨_,.bool _⟩
  | int=>obtain ⟨t,rfl⟩:=(show ∃ t,u=Value.int _ t from r); exact ⟨_,.int _ _⟩
  | str=>obtain ⟨t,rfl⟩:=(show ∃ t,u=Value.str _ t from r); exact ⟨_,.str _ _⟩
  | tup h q=>
    cases n with
    | zero=>cases ho
    | succ m=>
      cases (show u=Value.ref _ from r)
      obtain ⟨its,rv,ht,_⟩:=I.tuple (SqT.of h)
      obtain ⟨as,ra⟩:=Reps.readsOf (ih m rfl) q _ (okN_all ho) rv
      obtain ⟨o,h1,h2,m,h3⟩:=ht
      exact ⟨_,.tuple h1 h2 h3 (by simpa using ra)⟩
  | lst h q=>
    cases n with
    | zero=>cases ho
    | succ m=>
      cases (show u=Value.ref _ from r)
      obtain ⟨its,rv,ht,_⟩:=I.list h
      obtain ⟨as,ra⟩:=Reps.readsOf (ih m rfl) q _ (okN_all ho) rv
      obtain ⟨o,m,h1,h2,_,h3⟩:=ht
      exact ⟨_,.list h1 h2 h3 (by simpa using ra)⟩
  | _=>cases n <;> cases ho
theorem Rep.reads (I:Inv X pins σ H s) (n:Nat):∀ {v:V} {d:D} {u:Value},Rep X.K H v d→okN n d=true→RelV v u→∃ as,Reads s.heap u (toPy d) as:=by
  induction n with
  | zero=>exact fun h ho r=>Rep.reads1 I 0 (fun m e=>by cases e) h ho r
  | succ n ih=>exact fun h ho r=>Rep.reads1 I (n + 1) (fun m e=>by cases e; exact ih) h ho r
end
noncomputable def eqd (x y:D):Bool:=PyData.eqv (toPy x) (toPy y)
noncomputable def eqD (x y:D):Option D:=if (okN 30 x&&okN 30 y)=true then some (.bl (eqd x y)) else none
noncomputable def neD (x y:D):Option D:=if (okN 30 x&&okN 30 y)=true then some (.bl (!eqd x y)) else none
noncomputable def rEqD (K:PySem.W.Frag) (g:Bool→Bool):R2:=fun x y H Q=>∃ dx dy,Rep K H x dx∧Rep K H y dy∧okN 30 dx=true∧okN 30 dy=true∧Q (.bl (g (eqd dx dy))) H
section
variable {X:Cx} {e a b c:Expr} {es:List Expr} {pos:Pos}
theorem op_eqD (hu:X.A.units + 64 < cLine):OpR X (compareOp .Eq) (rEqD X.K fun b=>b):=by
  intro pins s σ H x y v u Q I rx ry h
  obtain ⟨dx,dy,h1,h2,o1,o2,q⟩:=h
  obtain ⟨a1,r1⟩:=h1.reads I 30 o1 rx
  obtain ⟨a2,r2⟩:=h2.reads I 30 o2 ry
  obtain ⟨l1,p1⟩:=okN_lay 30 dx o1
  obtain ⟨l2,p2⟩:=okN_lay 30 dy o2
  refine PySem.SeqAt.compareEq_shaped r1 r2 ?_ ?_ hu ⟨.bl _,H,I,rfl,q⟩
  · unfold PySem.SeqAt.shaped; rw [l1,Bool.true_and,decide_eq_true_eq]; omega
  · unfold PySem.SeqAt.shaped; rw [l2,Bool.true_and,decide_eq_true_eq]; omega
theorem op_neD (hu:X.A.units + 64 < cLine):OpR X (compareOp .NotEq) (rEqD X.K fun b=>!b):=by
  intro pins s σ H x y v u Q I rx ry h
  obtain ⟨dx,dy,h1,h2,o1,o2,q⟩:=h
  obtain ⟨a1,r1⟩:=h1.reads I 30 o1 rx
  obtain ⟨a2,r2⟩:=h2.reads I 30 o2 ry
  obtain ⟨l1,p1⟩:=okN_lay 30 dx o1
  obtain ⟨l2,p2⟩:=okN_lay 30 dy o2
  refine PySem.SeqAt.compareNe_shaped r1 r2 ?_ ?_ hu ⟨.bl _,H,I,rfl,q⟩
  · unfold PySem.SeqAt.shaped; rw [l1,Bool.true_and,decide_eq_true_eq]; omega
  · unfold PySem.SeqAt.shaped; rw [l2,Bool.true_and,decide_eq_true_eq]; omega
theorem od_eqD {K:PySem.W.Frag}:OpN2 K (rEqD K fun b=>b) eqD:=by
  intro P F H x y dx dy d Q hf hp rx ry k
  unfold eqD at hf
  split at hf
  · rename_i h
    rw [Bool.and_eq_true] at h
    cases hf
    exact ⟨dx,dy,rx,ry,h.1,h.2,k _ F H (Evo.refl hp) .bl⟩
  · cases hf
theorem od_neD {K:PySem.W.Frag}:OpN2 K (rEqD K fun b=>!b) neD:=by
  intro P F H x y dx dy d Q hf hp rx ry k
  unfold neD at hf
  split at hf
  · rename_i h
    rw [Bool.and_eq_true] at h
    cases hf
    exact ⟨dx,dy,rx,ry,h.1,h.2,k _ F H (Evo.refl hp) .bl⟩
  · cases hf
theorem pd_eq {fa fb:DF→Option D} (hu:X.A.units + 64 < cLine) (ha:PDN X a fa) (hb:PDN X b fb):PDE X (.Compare a [.Eq] [b] pos) (d2 eqD fa fb):=pn_cmp (op_eqD hu) od_eqD ha hb (nomark _)
theorem pd_ne {fa fb:DF→Option D} (hu:X.A.units + 64 < cLine) (ha:PDN X a fa) (hb:PDN X b fb):PDE X (.Compare a [.NotEq] [b] pos) (d2 neD fa fb):=pn_cmp (op_neD hu) od_neD ha hb (nomark _)
theorem pt_eq {fa fb:DF→Option D} (hu:X.A.units + 64 < cLine) (ha:PDN X a fa) (hb:PDN X b fb):PDT X (.Compare a [.Eq] [b] pos) (asB (d2 eqD fa fb)):=ptn_cmp (op_eqD hu) od_eqD ha hb (nomark _)
theorem pt_ne {fa fb:DF→Option D} (hu:X.A.units + 64 < cLine) (ha:PDN X a fa) (hb:PDN X b fb):PDT X (.Compare a [.NotEq] [b] pos) (asB (d2 neD fa fb)):=ptn_cmp (op_neD hu) od_neD ha hb (nomark _)
noncomputable def itemsD:D→Option (List D)
  | .lst ds=>some ds
  | .tup ds=>some ds
  | _=>none
end
section
variable {X:Cx} {tg e a b l:Expr} {pos p:Pos}
noncomputable def lstOf (f:DF→Option D):DF→Option (List D):=fun ρ=>match f ρ with
  | some (.lst ds)=>some ds
  | _=>none
theorem lstOf_eq {f:DF→Option D} {ρ:DF} {ds:List D} (h:lstOf f ρ=some ds):f ρ=some (.lst ds):=by
  unfold lstOf at h
  split at h
  · rename_i q; cases h; exact q
  · cases h
theorem itOk_list {K:PySem.W.Frag} {P F:Hp} {a:Addr} {vs:List V} {ds:List D} (h:SqL K F a vs) (r:Reps K F vs ds):ItOk K P (Itl K a) F ds:=by
  intro F' H' e hp i
  have hv:SqL K H' a vs:=hp.sub.seq (e.seq h)
  refine ⟨fun d hd=>?_,fun hl=>⟨vs,hv,by rw [r.length]; exact hl⟩⟩
  obtain ⟨v,h1,h2⟩:=r.get hd
  refine ⟨⟨vs,v,hv,h1⟩,fun x H2 hy=>?_⟩
  obtain ⟨rfl,hx⟩:=hy
  have:=hx vs hv
  rw [h1] at this
  cases this
  exact ⟨F',Evo.refl hp,h2.same e⟩
theorem pdi_lst {f:DF→Option D} (h:PDE X l f):PDI X tg l (lstOf f):=PI.imp (pi_list h) fun σ H R=>un7 fun P F ρ ds hf I k=>by
  refine ⟨P,F,ρ,_,lstOf_eq hf,I,fun v F' H' ev rv=>?_⟩
  cases rv with
  | lst h1 h2=>exact ⟨_,rfl,⟨_,ev.hp.sub.seq h1⟩,k _ F' H' ev (itOk_list h1 h2)⟩
noncomputable def borOf (i:Nat):DF→Option (List D):=fun ρ=>match ρ[i]? with
  | some (some (.bor (.lst ds)))=>some ds
  | some (some (.v (.lst ds)))=>some ds
  | _=>none
theorem itOk_bor {K:PySem.W.Frag} {P F:Hp} {a:Addr} {vs:List V} {ds:List D} (h:P a=some (.lst vs)) (r:Reps K F vs ds):ItOk K P (Itl K a) F ds:=by
  intro F' H' e hp i
  have hv:SqL K H' a vs:=SqL.of (hp.pro _ _ h)
  refine ⟨fun d hd=>?_,fun hl=>⟨vs,hv,by rw [r.length]; exact hl⟩⟩
  obtain ⟨v,h1,h2⟩:=r.get hd
  refine ⟨⟨vs,v,hv,h1⟩,fun x H2 hy=>?_⟩
  obtain ⟨rfl,hx⟩:=hy
  have:=hx vs hv
  rw [h1] at this
  cases this
  exact ⟨F',Evo.refl hp,h2.same e⟩
theorem pdi_bor (i:Nat) (h:PE X l (tVar i)):PDI X tg l (borOf i):=PI.imp (pi_list h) fun σ H R=>un7 fun P F ρ ds hf I k=>by
  unfold borOf at hf
  split at hf
  · rename_i ds' q
    cases hf
    obtain ⟨v,h1,a,rfl,_,u,h3,h4⟩:=I.at q
    cases u with
    | lst vs=>exact ⟨_,h1,a,rfl,⟨vs,SqL.of (I.pro _ _ h3)⟩,k _ F H (Evo.refl I.toDHp) (itOk_bor h3 h4)⟩
    | _=>exact h4.elim
  · rename_i ds' q
    cases hf
    obtain ⟨v,h1,h2⟩:=I.at q
    cases h2 with
    | lst h3 h4=>exact ⟨_,h1,_,rfl,⟨_,I.sub.seq h3⟩,k _ F H (Evo.refl I.toDHp) (itOk_list h3 h4)⟩
  · cases hf
noncomputable def rangeL (lo:Int) (n:Nat):List D:=(List.range n).map fun i:Nat=>.int (lo + (i:Int))
theorem rangeL_get {lo:Int} {n i:Nat} {d:D} (h:(rangeL lo n)[i]?=some d):i < n∧d=.int (lo + (i:Int)):=by
  unfold rangeL at h
  rw [List.getElem?_map] at h
  by_cases hi:i < n
  · rw [List.getElem?_range hi,Option.map_some] at h
    cases h
    exact ⟨hi,rfl⟩
  · rw [List.getElem?_eq_none (by rw [List.length_range]; omega)] at h
    cases h
theorem rangeL_len (lo:Int) (n:Nat):(rangeL lo n).length=n:=by unfold rangeL; rw [List.length_map,List.length_range]
theorem itOk_range {K:PySem.W.Frag} {P F:Hp} (lo:Int) (n:Nat):ItOk K P (Itr lo n) F (rangeL lo n):=by
  intro F' H' e hp i
  refine ⟨fun d hd=>?_,fun hl=>by rw [rangeL_len] at hl; exact hl⟩
  obtain ⟨hi,rfl⟩:=rangeL_get hd
  refine ⟨hi,fun x H2 hy=>?_⟩
  obtain ⟨rfl,rfl⟩:=hy
  exact ⟨F',Evo.refl hp,.int⟩
noncomputable def rng1 (f:DF→Option D):DF→Option (List D):=fun ρ=>match f ρ with
  | some (.int j)=>if -(2 ^ 62)≤j∧j < 2 ^ 62 then some (rangeL 0 j.toNat) else none
  | _=>none
theorem pdi_range1 {f:DF→Option D} (hg:Gl X "range") (hm:X.mg "range"=none) (ha:PDR X a f) (hs:starEach [a] X.env=[(false,eval a X.env)]:=by rfl):PDI X tg (.Call (.Name "range" p) [a] [] pos) (rng1 f):=
  PI.imp (pi_range1 hg hm (pa_cons ha pa_nil hs) hs) fun σ H R=>un7 fun P F ρ ds hf I k=>by
    unfold rng1 at hf
    split at hf
    · rename_i j q
      split at hf
      · rename_i hj
        cases hf
        refine ⟨P,F,ρ,_,q,I,fun v F1 H1 e1 r1=>⟨j,by rw [rep_int r1],hj.1,hj.2,k _ F1 H1 e1 (itOk_range 0 _)⟩⟩
      · cases hf
    · cases hf
noncomputable def setsV:List Nat→List D→DF→Option DF
  | [],[],ρ=>some ρ
  | i::is,d::ds,ρ=>setsV is ds (ρ.set i (some (.v d)))
  | _,_,_=>none
noncomputable def setT (is:List Nat) (d:D) (ρ:DF):Option DF:=match d with
  | .tup ds=>setsV is ds ρ
  | _=>none
noncomputable def gNames:List Nat→TGs
  | []=>gNil
  | i::is=>gCons (gName i) (gNames is)
theorem gNames_ok {K:PySem.W.Frag} {P F H:Hp} {Q:St→Hp→Prop}:∀ (is:List Nat) (vs:List V) (ds:List D) (ρ ρ':DF) (σ:St),Reps K F vs ds→setsV is ds ρ=some ρ'→DInv K P F H ρ σ→
    (∀ σ',DInv K P F H ρ' σ'→σ'.length=σ.length→(∀ j,j∉is→σ'[j]?=σ[j]?)→Q σ' H)→gNames is vs σ H Q
  | [],vs,ds,ρ,ρ',σ,r,hs,I,k=>by
    cases r with
    | nil=>cases hs; exact ⟨rfl,k σ I rfl fun _ _=>rfl⟩
    | cons _ _=>cases hs
  | i::is,vs,ds,ρ,ρ',σ,r,hs,I,k=>by
    cases r with
    | nil=>cases hs
    | cons h q=>
      refine ⟨_,_,rfl,gNames_ok is _ _ _ ρ' _ q hs (I.setV i h) fun σ' I' hl hj=>k σ' I' (by rw [hl,List.length_set]) fun j hn=>?_⟩
      rw [hj j (fun z=>hn (List.mem_cons_of_mem _ z)),List.getElem?_set_ne (fun z=>hn (by rw [z]; exact List.mem_cons_self))]
theorem setsV_len:∀ (is:List Nat) (ds:List D) (ρ ρ':DF),setsV is ds ρ=some ρ'→ds.length=is.length
  | [],[],_,_,_=>rfl
  | [],_::_,_,_,h=>by cases h
  | _::_,[],_,_,h=>by cases h
  | i::is,d::ds,ρ,ρ',h=>by rw [List.length_cons,List.length_cons,setsV_len is ds _ _ h]
theorem pdg_tup {es:List Expr} {k:Nat} {is:List Nat} (hc:X.calm=true) (h:PGs X es (gNames is)) (hn:(assignEach es X.env).length=is.length:=by rfl) (hst:(assignEach es X.env).findIdx? (·.1)=none:=by rfl):PDG X (.Tuple es k pos) is (setT is):=
  PG.imp (pg_tup (n:=is.length) hc h hn hst) fun v σ H Q hh_=>by
    obtain ⟨P,F,ρ,d,ρ',hs,I,r,kk⟩:=hh_
    cases d with
    | tup ds=>
      cases r with
      | tup h1 h2=>
        exact ⟨_,_,rfl,SqT.of (I.sub _ _ h1),by rw [h2.length]; exact setsV_len is ds ρ ρ' hs,gNames_ok is _ ds ρ ρ' σ h2 hs I fun σ' I' hl hj=>kk σ' F H (Evo.refl I.toDHp) I' hl hj⟩
    | _=>cases hs
noncomputable def dSetT (is:List Nat) (f:DF→Option D):DF→Option RES:=fun ρ=>(f ρ).bind fun d=>(setT is d ρ).map .nx
theorem pd_setT {es:List Expr} {k:Nat} {pos':Pos} {is:List Nat} {f:DF→Option D} (hg:PDG X (.Tuple es k pos') is (setT is)) (he:PDE X e f) (hs:swapsWithSole [.Tuple es k pos'] e pos.line X.env=pure false:=by rfl) (hw:swappedStores [.Tuple es k pos'] e X.env=pure none:=by rfl)
    (h1:(assignEach [.Tuple es k pos'] X.env).map (·.2)=[assign (.Tuple es k pos') X.env]:=by rfl):PD1 X (.Assign [.Tuple es k pos'] e pos) (dSetT is f):=PS.imp (ps_asg he hg hs hw h1) fun E σ H=>un7 fun P F ρ r hr I kk=>by
  unfold dSetT at hr
  cases q:f ρ with
  | none=>rw [q] at hr; cases hr
  | some d=>
    rw [q,Option.bind_some] at hr
    cases q2:setT is d ρ with
    | none=>rw [q2] at hr; cases hr
    | some ρ'=>
      rw [q2] at hr
      cases hr
      exact ⟨P,F,ρ,d,q,I,fun v F1 H1 e1 r1=>⟨P,F1,ρ,d,ρ',q2,I.evo e1,r1,fun σ' F2 H2 e2 I2 _ _=>kk σ' F2 H2 (e1.ext.trans e2.ext) I2⟩⟩
end
theorem DInv.mut {K:PySem.W.Frag} {P F H:Hp} {ρ:DF} {σ:St} (I:DInv K P F H ρ σ) {i:Nat} {o o':OD} {t:Option Addr} {a:Addr} {u:HO} (h:ρ[i]?=some (some (.own o t))) (hf:o.flat=true) (hf':o'.flat=true) (hs:σ[i]?=some (some (.ref a))) (hr:ORep1 K F o' u) :
    DInv K P F (upd H a u) (ρ.set i (some (.own o' t))) σ:=by
  obtain ⟨O,hR⟩:=I.rep
  obtain ⟨v,h1,b,rfl,h2,ht⟩:=hR i _ h
  rw [hs] at h1; cases h1
  obtain ⟨⟨q1,q2,q3⟩,u',q4,_⟩:=(ORep.flat hf).mp h2
  refine ⟨⟨fun c w e=>by rw [upd_ne (ne_of_none e q1)]; exact I.sub c w e,fun c w e=>by rw [upd_ne (ne_of_none e q2)]; exact I.pro c w e,I.dis⟩,by rw [List.length_set]; exact I.len,O,fun j z hj=>?_⟩
  rcases set_get hj with ⟨rfl,e,hl⟩ | ⟨hij,hj'⟩
  · cases e
    exact ⟨_,hs,a,rfl,(ORep.flat hf').mpr ⟨⟨q1,q2,q3⟩,u,upd_same,hr⟩,ht⟩
  · obtain ⟨w,e1,e2⟩:=hR j z hj'
    refine ⟨w,e1,?_⟩
    cases z with
    | v d'=>exact e2
    | own od t'=>(obtain ⟨c,rfl,e3,ht'⟩:=e2; exact ⟨c,rfl,e3.mono (Same.refl _) fun b w' q hb=>⟨by rw [upd_ne (fun z=>by subst z; rw [q.2.2] at q3; exact hij (Option.some.inj q3).symm)]; exact hb,q⟩,ht'⟩)
    | bor od=>exact e2
section
variable {X:Cx} {o e:Expr} {pos apos cpos:Pos}
noncomputable def dApp (i:Nat) (f:DF→Option D):DF→Option RES:=fun ρ=>match ρ[i]? with
  | some (some (.own (.lst ds) t))=>(f ρ).bind fun d=>if ds.length < 16777216 then some (.nx (ρ.set i (some (.own (.lst (ds++[d])) t)))) else none
  | _=>none
theorem own_at {K:PySem.W.Frag} {P F H:Hp} {ρ:DF} {σ:St} (I:DInv K P F H ρ σ) {i:Nat} {ds:List D} {t:Option Addr} (q:ρ[i]?=some (some (.own (.lst ds) t))):∃ a vs,σ[i]?=some (some (.ref a))∧F a=none∧P a=none∧H a=some (.lst vs)∧Reps K F vs ds:=by
  obtain ⟨v,h1,a,rfl,⟨⟨q1,q2,_⟩,u,q3,q4⟩,_⟩:=I.at q
  cases u with
  | lst vs=>exact ⟨a,vs,h1,q1,q2,q3,q4⟩
  | _=>exact q4.elim
theorem pd_append (i:Nat) {f:DF→Option D} (h:PE X o (tVar i)) (ha:PDE X e f) (hbase:attributeBase o "append" X.env (eval o X.env)=eval o X.env:=by rfl)
    (hfew:((backTo cpos (starEach [e] X.env)).all (fun x=>!x.1)&&(backToKw cpos (keywordEach [] X.env)).all (fun x=>x.1.isSome)
      && decide (([e]:List Expr).length + ([]:List Keyword).length + (if ([]:List Keyword).isEmpty then 0 else 1) < 30))=true:=by rfl)
    (hline:(apos.endLine == cpos.line)=true:=by rfl) (hs:starEach [e] X.env=[(false,eval e X.env)]:=by rfl) (hsw:swapsWith (.Call (.Attribute o "append" apos) [e] [] cpos) none pos.line X.env=pure false:=by rfl) :
    PD1 X (.Expr (.Call (.Attribute o "append" apos) [e] [] cpos) pos) (dApp i f):=
  PS.imp (ps_expr (pe_bm PySem.F.plainAttrs_list PySem.F.slot_list_append PySem.F.type_list_append mt_append h (pa_cons ha pa_nil hs) hbase hfew hline hs rfl) hsw) fun E σ H=>un7 fun P F ρ r hr I k=>by
    unfold dApp at hr
    split at hr
    · rename_i ds t q
      cases q2:f ρ with
      | none=>rw [q2] at hr; cases hr
      | some d=>
        rw [q2,Option.bind_some] at hr
        split at hr
        · rename_i hl
          cases hr
          obtain ⟨a,vs,h1,h2,h3,h4,h5⟩:=own_at I q
          refine ⟨_,h1,.inl ⟨rfl,vs,SqL.of h4⟩,P,F,ρ,d,q2,I,fun v F1 H1 e1 r1=>?_⟩
          obtain ⟨k1,k2⟩:=e1.keep a _ h4 h2
          have I1:=I.evo e1
          refine ⟨a,vs,v,rfl,rfl,k1,by rw [sizeLine_eq,h5.length]; exact hl,k σ F1 _ e1.ext ?_⟩
          exact I1.mut (o':=.lst _) (u:=.lst _) q rfl rfl h1 ((h5.same e1.ext).append (.one r1))
        · cases hr
    · cases hr
noncomputable def dSetIx (i:Nat) (f g:DF→Option D):DF→Option RES:=fun ρ=>match ρ[i]? with
  | some (some (.own (.lst ds) t))=>(g ρ).bind fun d=>(f ρ).bind fun
    | .int k=>(ixN ds.length k).map fun j=>.nx (ρ.set i (some (.own (.lst (ds.set j d)) t)))
    | _=>none
  | _=>none
theorem pd_setIx (i:Nat) {ix:Expr} {f g:DF→Option D} (h:PE X o (tVar i)) (hf:PDE X ix f) (hg:PDE X e g)
    (ha:∀ v,assign (.Subscript o ix apos) X.env v=(do
      let ov ← holding [v] (eval o X.env)
      let iv ← holding [v,ov] (eval ix X.env)
      standAt apos
      holding [v,ov,iv] (setItem ov iv v)
      release [v,ov,iv] []):=by intro _; rfl) (hs:swapsWithSole [.Subscript o ix apos] e pos.line X.env=pure false:=by rfl) (hw:swappedStores [.Subscript o ix apos] e X.env=pure none:=by rfl)
    (h1:(assignEach [.Subscript o ix apos] X.env).map (·.2)=[assign (.Subscript o ix apos) X.env]:=by rfl) :
    PD1 X (.Assign [.Subscript o ix apos] e pos) (dSetIx i f g):=
  PS.imp (ps_asg hg (pg_sub h hf set_list ha) hs hw h1) fun E σ H=>un7 fun P F ρ r hr I k=>by
    unfold dSetIx at hr
    split at hr
    · rename_i ds t q
      cases q2:g ρ with
      | none=>rw [q2] at hr; cases hr
      | some d=>
        rw [q2,Option.bind_some] at hr
        cases q3:f ρ with
        | none=>rw [q3] at hr; cases hr
        | some dk=>
          rw [q3,Option.bind_some] at hr
          cases dk with
          | int kk=>
            dsimp only at hr
            cases q4:ixN ds.length kk with
            | none=>rw [q4] at hr; cases hr
            | some j=>
              rw [q4] at hr
              cases hr
              obtain ⟨a,vs,h1,h2,h3,h4,h5⟩:=own_at I q
              refine ⟨P,F,ρ,d,q2,I,fun v F1 H1 e1 r1=>⟨_,h1,P,F1,ρ,_,q3,I.evo e1,fun w F2 H2 e2 r2=>?_⟩⟩
              cases r2
              have e12:=e1.trans e2
              obtain ⟨k1,k2⟩:=e12.keep a _ h4 h2
              refine ⟨a,vs,kk,j,rfl,rfl,k1,by rw [h5.length]; exact q4,k σ F2 _ e12.ext ?_⟩
              exact (I.evo e12).mut (o':=.lst _) (u:=.lst _) q rfl rfl h1 ((h5.same e12.ext).set (r1.same e2.ext) j)
          | _=>cases hr
    · cases hr
end
mutual
noncomputable def ltD:D→D→Bool
  | .int i,.int j=>decide (i < j)
  | .bl a,.bl b=>!a&&b
  | .str x,.str y=>decide (x.cps.toList < y.cps.toList)
  | .tup xs,.tup ys=>lexD xs ys
  | _,_=>false
noncomputable def lexD:List D→List D→Bool
  | [],[]=>false
  | [],_::_=>true
  | _::_,[]=>false
  | x::xs,y::ys=>if eqd x y=true then lexD xs ys else ltD x y
end
mutual
noncomputable def cmpOk:D→D→Bool
  | .int _,.int _=>true
  | .bl _,.bl _=>true
  | .str _,.str _=>true
  | .tup xs,.tup ys=>cmpOks xs ys
  | _,_=>false
noncomputable def cmpOks:List D→List D→Bool
  | x::xs,y::ys=>cmpOk x y&&cmpOks xs ys
  | _,_=>true
end
noncomputable def LtAt (A:Around) (s:Shared) (y x:Value) (b:Bool):Prop:=
  ∀ (prog:Program) (w:World) (E:Value→Shared→Prop) (Q:Value→Shared→Prop),Q (.bool b) s→wpAny (model prog w) A (richCompare .Lt y x) Q E s
inductive LexOk (A:Around) (s:Shared):List Value→List Value→List D→List D→Prop
  | nl {ws:List Value} {es:List D}:ws.length=es.length→LexOk A s [] ws [] es
  | nr {vs:List Value} {ds:List D}:vs.length=ds.length→LexOk A s vs [] ds []
  | cons {v w:Value} {d e:D} {vs ws:List Value} {ds es:List D}:SeqAt.EqAt A s v w (eqd d e)→(eqd d e=false→LtAt A s v w (ltD d e))→LexOk A s vs ws ds es→LexOk A s (v::vs) (w::ws) (d::ds) (e::es)
theorem LexOk.len {A:Around} {s:Shared} {vs ws:List Value} {ds es:List D} (h:LexOk A s vs ws ds es):vs.length=ds.length∧ws.length=es.length:=by
  induction h with
  | nl h=>exact ⟨rfl,h⟩
  | nr h=>exact ⟨h,rfl⟩
  | cons _ _ _ ih=>exact ⟨congrArg Nat.succ ih.1,congrArg Nat.succ ih.2⟩
section
open PySem.SeqAt
open PySem.AutoSeq1 (wpAny_loadPart')
open PySem.MeetsSeq PySem.MeetsSeq2 PySem.MeetsSeq3
theorem tuple_lt_gen (l b:Addr) (items items2:Array Value) (n n2:Nat) (dd dd2:Option Addr) (sl sl2:Array (Option Value)) (ds es:List D) :
    Meets (Builtin.«tuple.__lt__» ⟨[.ref l,.ref b],[]⟩)
      (fun A R s=>LexOk A.in1 s items.toList items2.toList ds es∧s.heap.get? l=some { cls:=.type "tuple",dict:=dd,data:=.seq items n,slots:=sl }∧s.heap.get? b=some { cls:=.type "tuple",dict:=dd2,data:=.seq items2 n2,slots:=sl2 } ∧
        R (.ok (.ret (.bool (lexD ds es)))) s):=
  .of_wp fun prog w A R s h=>by
    obtain ⟨hp,g,d,tk,os⟩:=s; obtain ⟨hlex,hl,hb,h⟩:=h
    have f2:=AutoSeq1.sub_tuple_tuple
    have z1:items.size=ds.length:=by rw [← hlex.len.1]; simp
    have z2:items2.size=es.length:=by rw [← hlex.len.2]; simp
    wp_walk using wpAny_loadPart' hl,wpAny_loadPart' hb,wpAny_forIn_list _ (fun rest b s'=>b.1=none∧s'=⟨hp,g,d,tk,os⟩∧∃ (vs ws:List Value) (ds' es':List D),rest=vs.zip ws ∧
      LexOk A.in1 ⟨hp,g,d,tk,os⟩ vs ws ds' es'∧ds'.length + items2.size=es'.length + items.size∧R (.ok (.ret (.bool (lexD ds' es')))) ⟨hp,g,d,tk,os⟩) _
    case turn=>
      rintro ⟨y,x⟩ rest b s' ⟨hb',rfl,vs,ws,ds',es',hz,hx,hlen,hR⟩
      cases hx with
      | nl _=>rw [List.zip_nil_left] at hz; cases hz
      | nr _=>rw [List.zip_nil_right] at hz; cases hz
      | @cons v w' dd' ee' vs' ws' ds'' es'' he hlt hx'=>
        rw [List.zip_cons_cons] at hz
        injection hz with hyx hrest
        injection hyx with hy hxx
        subst hy hxx
        simp only [List.length_cons] at hlen
        refine wpAny_bind (he prog w _ _ ?_)
        cases q:eqd dd' ee' with
        | true=>
          have hR':R (.ok (.ret (.bool (lexD ds'' es'')))) ⟨hp,g,d,tk,os⟩:=by
            rw [lexD,if_pos q] at hR; exact hR
          wp_walk
          exact ⟨rfl,rfl,_,_,_,_,hrest,hx',by omega,hR'⟩
        | false=>
          have hR':R (.ok (.ret (.bool (ltD dd' ee')))) ⟨hp,g,d,tk,os⟩:=by
            rw [lexD,if_neg (by rw [q]; exact Bool.false_ne_true)] at hR; exact hR
          have hri:=hlt q prog w
          wp_walk using hri
          exact ⟨_,rfl,by simpa using hR'⟩
    case fin=>
      rintro ⟨b1,b2⟩ s' ⟨hb',rfl,vs,ws,ds',es',hz,hx,hlen,hR⟩
      simp only at hb'
      subst hb'
      have hv:lexD ds' es'=decide (items.size < items2.size):=by
        cases hx with
        | nl hw=>
          cases es' with
          | nil=>
            simp only [List.length_nil] at hlen
            rw [show lexD [] []=false by simp [lexD]]
            exact (decide_eq_false (by omega)).symm
          | cons c u=>
            simp only [List.length_nil,List.length_cons] at hlen
            rw [show lexD [] (c::u)=true by simp [lexD]]
            exact (decide_eq_true (by omega)).symm
        | nr hw=>
          cases ds' with
          | nil=>
            simp only [List.length_nil] at hlen
            rw [show lexD [] []=false by simp [lexD]]
            exact (decide_eq_false (by omega)).symm
          | cons c u=>
            simp only [List.length_nil,List.length_cons] at hlen
            rw [show lexD (c::u) []=false by simp [lexD]]
            exact (decide_eq_false (by omega)).symm
        | cons _ _ _=>
          rw [List.zip_cons_cons] at hz
          cases hz
      rw [hv] at hR
      wp_walk
      exact ⟨_,rfl,by simpa [Builtin.Tuple.tupleCompareSizes] using hR⟩
    case h=>
      exact ⟨rfl,rfl,items.toList,items2.toList,ds,es,rfl,hlex,by omega,h⟩
end
theorem lt_tupGen {A:Around} {s:Shared} {l b:Addr} {items items2:Array Value} {ds es:List D} (hl:IsTup s.heap l items) (hb:IsTup s.heap b items2) (hx:LexOk A.in1 s items.toList items2.toList ds es) (hu:A.units < cLine) :
    LtAt A s (.ref l) (.ref b) (lexD ds es):=by
  intro prog w E Q h
  obtain ⟨⟨cls,dd,data,sl⟩,ho,hc,n,hd⟩:=id hl
  obtain ⟨⟨cls2,dd2,data2,sl2⟩,ho2,hc2,n2,hd2⟩:=id hb
  simp only at hc hd hc2 hd2
  subst hc hd hc2 hd2
  exact richCompare_meets_room (op:=.Lt) ⟨_,ho,rfl⟩ ⟨_,ho2,rfl⟩ PySem.F.slot_tuple_lt PySem.F.entry_tuple_lt (PySem.F.args_tuple_lt_2 _ _) (tuple_lt_gen l b items items2 n n2 dd dd2 sl sl2 ds es)
    ⟨hx,ho,ho2,show Value.bool (lexD ds es)≠Value.notImplemented∧Q (.bool (lexD ds es)) s from ⟨(fun x=>nomatch x),h⟩⟩ hu
section
variable {X:Cx} {pins:List (Addr×Obj)} {σ:St} {H:Hp} {s:Shared}
noncomputable def isTup:D→Bool
  | .tup _=>true
  | _=>false
theorem Rep.ltS (A:Around) {x y:V} {d e:D} {u w:Value} (h1:Rep X.K H x d) (h2:Rep X.K H y e) (c:cmpOk d e=true) (hd:isTup d=false) (r1:RelV x u) (r2:RelV y w):LtAt A s u w (ltD d e):=by
  cases d with
  | int i=>
    cases e with
    | int j=>
      cases h1; cases h2
      obtain ⟨t,rfl⟩:=(show ∃ t,u=Value.int _ t from r1)
      obtain ⟨t',rfl⟩:=(show ∃ t,w=Value.int _ t from r2)
      intro prog w' E Q h
      exact HT.rcLt_int A s _ _ _ _ prog w' E Q (by rw [ltD] at h; exact h)
    | _=>exact absurd c Bool.false_ne_true
  | bl b1=>
    cases e with
    | bl b2=>
      cases h1; cases h2
      cases (show u=Value.bool _ from r1)
      cases (show w=Value.bool _ from r2)
      intro prog w' E Q h
      exact (PyProof.Rows.lt_bool (by cases b1 <;> cases b2 <;> (rw [ltD] at h; exact h)):wpAny (model prog w') A (compareOp .Lt (.bool b1) (.bool b2)) Q E s)
    | _=>exact absurd c Bool.false_ne_true
  | str x1=>
    cases e with
    | str x2=>
      cases h1; cases h2
      obtain ⟨t,rfl⟩:=(show ∃ t,u=Value.str _ t from r1)
      obtain ⟨t',rfl⟩:=(show ∃ t,w=Value.str _ t from r2)
      intro prog w' E Q h
      exact (PyProof.Rows.lt_str (by rw [ltD] at h; exact h):wpAny (model prog w') A (compareOp .Lt (.str x1 t) (.str x2 t')) Q E s)
    | _=>exact absurd c Bool.false_ne_true
  | tup xs=>cases hd
  | _=>exact absurd c Bool.false_ne_true
theorem Reps.lex (I:Inv X pins σ H s) (n:Nat) (A:Around) (hu:A.units + n + 2 < cLine)
    (ih:∀ {x y:V} {d e:D} {u w:Value},Rep X.K H x d→Rep X.K H y e→okN n d=true→okN n e=true→cmpOk d e=true→RelV x u→RelV y w→LtAt A s u w (ltD d e)) :
    ∀ {xs ys:List V} {ds es:List D} {us ws:List Value},Reps X.K H xs ds→Reps X.K H ys es→(∀ d∈ds,okN n d=true)→(∀ d∈es,okN n d=true)→cmpOks ds es=true→Vals xs us→Vals ys ws→LexOk A s us ws ds es:=by
  intro xs ys ds
  induction ds generalizing xs ys with
  | nil=>
    intro es us ws q1 q2 _ _ _ r1 r2
    cases q1; cases r1
    exact .nl (by rw [← r2.length,q2.length])
  | cons d ds ihd=>
    intro es us ws q1 q2 o1 o2 c r1 r2
    cases es with
    | nil=>
      cases q2; cases r2
      exact .nr (by rw [← r1.length,q1.length])
    | cons e es=>
      cases q1 with
      | cons h q=>
        cases q2 with
        | cons h' q'=>
          cases r1 with
          | cons r t=>
            cases r2 with
            | cons r' t'=>
              rw [cmpOks,Bool.and_eq_true] at c
              have a1:=o1 _ List.mem_cons_self
              have a2:=o2 _ List.mem_cons_self
              obtain ⟨x1,p1⟩:=h.reads I n a1 r
              obtain ⟨x2,p2⟩:=h'.reads I n a2 r'
              obtain ⟨l1,m1⟩:=okN_lay n _ a1
              obtain ⟨l2,m2⟩:=okN_lay n _ a2
              refine .cons (PySem.SeqAt.eqAt_reads _ _ A s _ _ _ _ p1 p2 l1 l2 ?_) (fun _=>ih h h' a1 a2 c.1 r r') (ihd q q' (fun d hd=>o1 d (List.mem_cons_of_mem _ hd)) (fun d hd=>o2 d (List.mem_cons_of_mem _ hd)) c.2 t t')
              have:min (toPy d).depth (toPy e).depth≤n + 1:=Nat.le_trans (Nat.min_le_left _ _) m1
              omega
theorem Rep.lt (I:Inv X pins σ H s):∀ (n:Nat) (A:Around),A.units + n + 2 < cLine→∀ {x y:V} {d e:D} {u w:Value},Rep X.K H x d→Rep X.K H y e→okN n d=true→okN n e=true→cmpOk d e=true→RelV x u→RelV y w→LtAt A s u w (ltD d e):=by
  intro n
  induction n with
  | zero=>
    intro A hu x y d e u w h1 h2 o1 o2 c r1 r2
    refine h1.ltS A h2 c ?_ r1 r2
    cases d <;> first | rfl | (simp [okN] at o1)
  | succ n ihn=>
    intro A hu x y d e u w h1 h2 o1 o2 c r1 r2
    cases hd:isTup d with
    | false=>exact h1.ltS A h2 c hd r1 r2
    | true=>
      cases d with
      | tup ds=>
        cases e with
        | tup es=>
          cases h1 with
          | tup h1 q1=>
            cases h2 with
            | tup h2 q2=>
              cases (show u=Value.ref _ from r1)
              cases (show w=Value.ref _ from r2)
              obtain ⟨its1,rv1,ht1,_⟩:=I.tuple (SqT.of h1)
              obtain ⟨its2,rv2,ht2,_⟩:=I.tuple (SqT.of h2)
              rw [ltD]
              have hu':A.in1.units + n + 2 < cLine:=by show A.units + 1 + n + 2 < cLine; omega
              exact lt_tupGen ht1 ht2 (Reps.lex I n A.in1 hu' (ihn A.in1 hu') q1 q2 (okN_all o1) (okN_all o2) (by rw [cmpOk] at c; exact c) rv1 rv2) (by omega)
        | _=>exact absurd c Bool.false_ne_true
      | _=>cases hd
end
noncomputable def ltd (x y:D):Option D:=if (okN 30 x&&okN 30 y&&cmpOk x y)=true then some (.bl (ltD x y)) else none
noncomputable def rLtD (K:PySem.W.Frag):R2:=fun x y H Q=>∃ dx dy,Rep K H x dx∧Rep K H y dy∧okN 30 dx=true∧okN 30 dy=true∧cmpOk dx dy=true∧Q (.bl (ltD dx dy)) H
section
variable {X:Cx} {a b:Expr} {pos:Pos}
theorem op_ltD (hu:X.A.units + 64 < cLine):OpR X (compareOp .Lt) (rLtD X.K):=by
  intro pins s σ H x y v u Q I rx ry h
  obtain ⟨dx,dy,h1,h2,o1,o2,c,q⟩:=h
  exact Rep.lt I 30 X.A (by omega) h1 h2 o1 o2 c rx ry X.prog X.w X.xe _ ⟨.bl _,H,I,rfl,q⟩
theorem od_ltD {K:PySem.W.Frag}:OpN2 K (rLtD K) ltd:=by
  intro P F H x y dx dy d Q hf hp rx ry k
  unfold ltd at hf
  split at hf
  · rename_i h
    rw [Bool.and_eq_true,Bool.and_eq_true] at h
    cases hf
    exact ⟨dx,dy,rx,ry,h.1.1,h.1.2,h.2,k _ F H (Evo.refl hp) .bl⟩
  · cases hf
theorem pt_ltd {fa fb:DF→Option D} (hu:X.A.units + 64 < cLine) (ha:PDN X a fa) (hb:PDN X b fb):PDT X (.Compare a [.Lt] [b] pos) (asB (d2 ltd fa fb)):=ptn_cmp (op_ltD hu) od_ltD ha hb (nomark _)
end
end L2
namespace L2
open PySem PySem.Spec PyProof.Rows PySem.W
noncomputable def kok {α:Type} (n:Nat) (lt:Nat→Nat→Bool):KasT α→(α→Prop)→Prop
  | .ret a,Q=>Q a
  | .ask i j k,Q=>i < n∧j < n∧kok n lt (k (lt i j)) Q
theorem kok_bind {α β:Type} {n:Nat} {lt:Nat→Nat→Bool} {f:α→KasT β} {Q:β→Prop} (t:KasT α):kok n lt t (fun a=>kok n lt (f a) Q)→kok n lt (t.bind f) Q:=by
  induction t with
  | ret a=>exact fun h=>h
  | ask i j k ih=>exact fun h=>⟨h.1,h.2.1,ih _ h.2.2⟩
theorem kok_mono {α:Type} {n:Nat} {lt:Nat→Nat→Bool} {Q Q':α→Prop} (hq:∀ a,Q a→Q' a) (t:KasT α):kok n lt t Q→kok n lt t Q':=by
  induction t with
  | ret a=>exact hq a
  | ask i j k ih=>exact fun h=>⟨h.1,h.2.1,ih _ h.2.2⟩
theorem kok_wp {α:Type} {n:Nat} {lt:Nat→Nat→Bool} {cmp:Nat→Nat→(Bool→Shared→Prop)→Shared→Prop} {s:Shared} {Q:α→Prop} {G:α→Shared→Prop} (hc:∀ i j C,i < n→j < n→C (lt i j) s→cmp i j C s) (hG:∀ a,Q a→G a s) (t:KasT α):kok n lt t Q→t.kasWp cmp G s:=by
  induction t with
  | ret a=>exact hG a
  | ask i j k ih=>exact fun h=>hc i j _ h.1 h.2.1 (ih _ h.2.2)
structure Ord (lt:Nat→Nat→Bool):Prop where
  asym:∀ i j,lt i j=true→lt j i=false
  trans:∀ i j k,lt j i=false→lt k j=false→lt k i=false
section
variable {n:Nat} {lt:Nat→Nat→Bool}
structure PermN (n:Nat) (p:Array Nat):Prop where
  size:p.size=n
  perm:p.toList.Perm (List.range n)
theorem PermN.bd {p:Array Nat} (h:PermN n p) {i:Nat} (hi:i < n):p.getD i 0 < n:=by
  have hs:i < p.size:=by rw [h.size]; exact hi
  have e:p.getD i 0=p[i]:=by simp [Array.getD,hs]
  rw [e]
  have hm:p[i]∈p.toList:=by simp
  exact List.mem_range.mp (h.perm.mem_iff.mp hm)
theorem PermN.rev {p:Array Nat} (h:PermN n p) (i j:Nat):PermN n (kas_rev p i j):=
  ⟨by unfold kas_rev; rw [mirror_size,h.size],((Array.perm_iff_toList_perm.mp (mirror_perm _ _ _ _)).trans h.perm)⟩
theorem PermN.bub {p:Array Nat} (h:PermN n p) (i j:Nat):PermN n (bubble p i j):=
  ⟨by rw [bubble_size,h.size],((Array.perm_iff_toList_perm.mp (bubble_perm _ _ _)).trans h.perm)⟩
theorem getD_eq {p q:Array Nat} {i j:Nat} (h:p[i]?=q[j]?):p.getD i 0=q.getD j 0:=by
  simp only [Array.getD_eq_getD_getElem?,h]
theorem rev_get {p:Array Nat} (h:PermN n p) {i j:Nat} (hj:j≤n) (k:Nat):(kas_rev p i j).getD k 0=if i≤k∧k < j then p.getD (i + j - 1 - k) 0 else p.getD k 0:=by
  have e:=getElem?_mirror_all (xs:=p) (i:=i) (j:=j) (by rw [h.size]; exact hj) k
  unfold kas_rev
  split
  · rename_i q; rw [if_pos q] at e; exact getD_eq e
  · rename_i q; rw [if_neg q] at e; exact getD_eq e
noncomputable def Ris (lt:Nat→Nat→Bool) (p:Array Nat) (b:Nat):Prop:=∀ i j,i≤j→j < b→lt (p.getD j 0) (p.getD i 0)=false
noncomputable def Fal (lt:Nat→Nat→Bool) (p:Array Nat) (b:Nat):Prop:=∀ i j,i≤j→j < b→lt (p.getD i 0) (p.getD j 0)=false
noncomputable def Eqs (lt:Nat→Nat→Bool) (p:Array Nat) (a b:Nat):Prop:=∀ i j,a≤i→i < b→a≤j→j < b→lt (p.getD i 0) (p.getD j 0)=false
theorem Ord.irr (o:Ord lt) (i:Nat):lt i i=false:=by
  cases q:lt i i with
  | false=>rfl
  | true=>have:=o.asym i i q; rw [q] at this; cases this
theorem mirr {a b i:Nat} (h:a≤i∧i < b):a≤a + b - 1 - i∧a + b - 1 - i < b:=by omega
theorem asc_ok (o:Ord lt) {p:Array Nat} (hp:PermN n p):∀ (f k:Nat),1≤k→k + f≤n→Ris lt p k→kok n lt (kas_asc p f k) (fun m=>k≤m∧m≤k + f∧Ris lt p m∧(m=k + f∨lt (p.getD m 0) (p.getD (m - 1) 0)=true)):=by
  intro f
  induction f with
  | zero=>exact fun k _ _ hr=>⟨Nat.le_refl _,Nat.le_refl _,hr,.inl rfl⟩
  | succ f ih=>
    intro k h1 hk hr
    have kn:k < n:=Nat.lt_of_lt_of_le (Nat.lt_add_of_pos_right (Nat.succ_pos f)) hk
    have k1:k - 1 < k:=Nat.sub_lt h1 Nat.one_pos
    have ek:=Nat.add_right_comm k 1 f
    unfold kas_asc
    refine ⟨hp.bd kn,hp.bd (Nat.lt_trans k1 kn),?_⟩
    cases c:lt (p.getD k 0) (p.getD (k - 1) 0) with
    | true=>
      (try dsimp only); rw [if_pos rfl]
      exact ⟨Nat.le_refl _,Nat.le_add_right _ _,hr,.inr c⟩
    | false=>
      (try dsimp only); rw [if_neg Bool.false_ne_true]
      refine kok_mono (fun m h=>⟨Nat.le_of_succ_le h.1,Nat.le_trans h.2.1 (Nat.le_of_eq ek),h.2.2.1,h.2.2.2.imp (fun e=>e.trans ek) id⟩) _ (ih (k + 1) (Nat.le_add_left 1 k) (Nat.le_trans (Nat.le_of_eq ek) hk) fun i j hij hj=>?_)
      by_cases hjk:j < k
      · exact hr i j hij hjk
      · have:j=k:=Nat.le_antisymm (Nat.le_of_lt_succ hj) (Nat.le_of_not_lt hjk)
        subst this
        by_cases hik:i=j
        · subst hik; exact o.irr _
        · exact o.trans _ _ _ (hr i (j - 1) (Nat.le_sub_one_of_lt (Nat.lt_of_le_of_ne hij hik)) k1) c
theorem rev_eqs {p:Array Nat} (hp:PermN n p) {a b:Nat} (hb:b≤n) (he:Eqs lt p a b) (o:Ord lt) (hf:Fal lt p b):Fal lt (kas_rev p a b) b:=by
  intro i j hij hj
  rw [rev_get hp hb,rev_get hp hb]
  by_cases hi:a≤i∧i < b
  · rw [if_pos hi]
    have hj':a≤j∧j < b:=⟨Nat.le_trans hi.1 hij,hj⟩
    rw [if_pos hj']
    exact he _ _ (mirr hi).1 (mirr hi).2 (mirr hj').1 (mirr hj').2
  · rw [if_neg hi]
    have hia:i < a:=Nat.lt_of_not_le fun z=>hi ⟨z,Nat.lt_of_le_of_lt hij hj⟩
    by_cases hj':a≤j∧j < b
    · rw [if_pos hj']
      exact hf _ _ (Nat.le_trans (Nat.le_of_lt hia) (mirr hj').1) (mirr hj').2
    · rw [if_neg hj']
      exact hf i j hij hj
theorem fal_more (o:Ord lt) {p':Array Nat} {k:Nat} (h1:1≤k) (hf':Fal lt p' k) (hc:lt (p'.getD (k - 1) 0) (p'.getD k 0)=false):Fal lt p' (k + 1):=by
  intro i j hij hj
  by_cases hjk:j < k
  · exact hf' i j hij hjk
  · have:j=k:=Nat.le_antisymm (Nat.le_of_lt_succ hj) (Nat.le_of_not_lt hjk)
    subst this
    by_cases hik:i=j
    · subst hik; exact o.irr _
    · exact o.trans _ _ _ hc (hf' i (j - 1) (Nat.le_sub_one_of_lt (Nat.lt_of_le_of_ne hij hik)) (Nat.sub_lt h1 Nat.one_pos))
theorem eqs_one (o:Ord lt) (p':Array Nat) (k:Nat):Eqs lt p' (k + 1 - (0 + 1)) (k + 1):=by
  intro i j a1 a2 a3 a4
  have e1:i=k:=Nat.le_antisymm (Nat.le_of_lt_succ a2) a1
  have e2:j=k:=Nat.le_antisymm (Nat.le_of_lt_succ a4) a3
  subst e1
  subst e2
  exact o.irr _
theorem eqs_more (o:Ord lt) {p:Array Nat} {k q:Nat} (hb:k - (q + 1)≤k - 1∧k - 1 < k) (he:Eqs lt p (k - (q + 1)) k) (c:lt (p.getD k 0) (p.getD (k - 1) 0)=false) (d:lt (p.getD (k - 1) 0) (p.getD k 0)=false):Eqs lt p (k + 1 - (q + 1 + 1)) (k + 1):=by
  have e1:∀ i,k + 1 - (q + 1 + 1)≤i→i < k + 1→lt (p.getD i 0) (p.getD k 0)=false∧lt (p.getD k 0) (p.getD i 0)=false:=fun i b1 b2=>by
    rw [Nat.add_sub_add_right] at b1
    by_cases hik:i=k
    · subst hik; exact ⟨o.irr _,o.irr _⟩
    · have il:i < k:=Nat.lt_of_le_of_ne (Nat.le_of_lt_succ b2) hik
      exact ⟨o.trans _ _ _ d (he i (k - 1) b1 il hb.1 hb.2),o.trans _ _ _ (he (k - 1) i hb.1 hb.2 b1 il) c⟩
  exact fun i j a1 a2 a3 a4=>o.trans _ _ _ (e1 j a3 a4).2 (e1 i a1 a2).1
theorem desc_ok (o:Ord lt):∀ (f:Nat) (p:Array Nat) (k q:Nat),PermN n p→1≤k→k + f≤n→q + 1≤k→Fal lt p k→Eqs lt p (k - (q + 1)) k→
    kok n lt (kas_desc f p k q) (fun r=>PermN n r.1∧k≤r.2.1∧r.2.1≤n∧r.2.2 + 1≤r.2.1∧Fal lt r.1 r.2.1∧Eqs lt r.1 (r.2.1 - (r.2.2 + 1)) r.2.1):=by
  intro f
  induction f with
  | zero=>exact fun p k q hp h1 hk hq hf he=>⟨hp,Nat.le_refl _,hk,hq,hf,he⟩
  | succ f ih=>
    intro p k q hp h1 hk hq hf he
    have kn:k < n:=Nat.lt_of_lt_of_le (Nat.lt_add_of_pos_right (Nat.succ_pos f)) hk
    have k1:k - 1 < k:=Nat.sub_lt h1 Nat.one_pos
    have hk':k + 1 + f≤n:=Nat.le_trans (Nat.le_of_eq (Nat.add_right_comm k 1 f)) hk
    have hb:k - (q + 1)≤k - 1∧k - 1 < k:=⟨Nat.sub_le_sub_left (Nat.succ_le_succ (Nat.zero_le q)) k,k1⟩
    unfold kas_desc
    refine ⟨hp.bd kn,hp.bd (Nat.lt_trans k1 kn),?_⟩
    cases c:lt (p.getD k 0) (p.getD (k - 1) 0) with
    | true=>
      (try dsimp only); rw [if_pos rfl]
      have hc:lt (p.getD (k - 1) 0) (p.getD k 0)=false:=o.asym _ _ c
      by_cases hq0:q > 0
      · rw [if_pos hq0]
        have hf':=rev_eqs hp (Nat.le_of_lt kn) he o hf
        have hc':lt ((kas_rev p (k - (q + 1)) k).getD (k - 1) 0) ((kas_rev p (k - (q + 1)) k).getD k 0)=false:=by
          rw [rev_get hp (Nat.le_of_lt kn),rev_get hp (Nat.le_of_lt kn),if_pos hb,if_neg (fun z=>Nat.lt_irrefl _ z.2)]
          exact o.trans _ _ _ hc (he _ _ (mirr hb).1 (mirr hb).2 hb.1 hb.2)
        exact kok_mono (fun r h=>⟨h.1,Nat.le_of_succ_le h.2.1,h.2.2⟩) _ (ih _ (k + 1) 0 (hp.rev _ _) (Nat.le_add_left 1 k) hk' (Nat.le_add_left 1 k) (fal_more o h1 hf' hc') (eqs_one o _ k))
      · rw [if_neg hq0]
        exact kok_mono (fun r h=>⟨h.1,Nat.le_of_succ_le h.2.1,h.2.2⟩) _ (ih _ (k + 1) 0 hp (Nat.le_add_left 1 k) hk' (Nat.le_add_left 1 k) (fal_more o h1 hf hc) (eqs_one o _ k))
    | false=>
      (try dsimp only); rw [if_neg Bool.false_ne_true]
      refine ⟨hp.bd (Nat.lt_trans k1 kn),hp.bd kn,?_⟩
      cases d:lt (p.getD (k - 1) 0) (p.getD k 0) with
      | true=>
        (try dsimp only); rw [if_pos rfl]
        exact ⟨hp,Nat.le_refl _,Nat.le_of_lt kn,hq,hf,he⟩
      | false=>
        (try dsimp only); rw [if_neg Bool.false_ne_true]
        exact kok_mono (fun r h=>⟨h.1,Nat.le_of_succ_le h.2.1,h.2.2⟩) _ (ih p (k + 1) (q + 1) hp (Nat.le_add_left 1 k) hk' (Nat.succ_le_succ hq) (fal_more o h1 hf d) (eqs_more o hb he c d))
theorem rev_ris {p:Array Nat} (hp:PermN n p) {b:Nat} (hb:b≤n) (hf:Fal lt p b):Ris lt (kas_rev p 0 b) b:=by
  intro i j hij hj
  have hi:0≤i∧i < b:=⟨Nat.zero_le _,Nat.lt_of_le_of_lt hij hj⟩
  rw [rev_get hp hb,rev_get hp hb,if_pos ⟨Nat.zero_le _,hj⟩,if_pos hi]
  exact hf _ _ (Nat.sub_le_sub_left hij _) (mirr hi).2
theorem tail3_ok (o:Ord lt) {p:Array Nat} (hp:PermN n p) {k:Nat} (h1:1≤k) (hk:k≤n) (hf:Fal lt p k):kok n lt (kas_tail3 k n p) (fun r=>1≤r.1∧r.1≤n∧PermN n r.2∧Ris lt r.2 r.1):=by
  unfold kas_tail3
  have e:=Nat.le_of_eq (Nat.add_sub_cancel' hk)
  exact kok_bind _ (kok_mono (fun m h=>⟨Nat.le_trans h1 h.1,Nat.le_trans h.2.1 e,hp.rev _ _,h.2.2.1⟩) _ (asc_ok o (hp.rev 0 k) (n - k) k h1 e (rev_ris hp hk hf)))
theorem descPart_ok (o:Ord lt) {p:Array Nat} (hp:PermN n p) {k:Nat} (h1:1≤k) (hk:k < n) (hf:Fal lt p (k + 1)):kok n lt (kas_descPart k n p) (fun r=>1≤r.1∧r.1≤n∧PermN n r.2∧Ris lt r.2 r.1):=by
  unfold kas_descPart
  refine kok_bind _ (kok_mono ?_ _ (desc_ok o (n - (k + 1)) p (k + 1) 0 hp (Nat.le_add_left 1 k) (Nat.le_of_eq (Nat.add_sub_cancel' hk)) (Nat.le_add_left 1 k) hf (eqs_one o p k)))
  intro r h
  obtain ⟨a1,a2,a3,a4,a5,a6⟩:=h
  have h1':=Nat.le_trans (Nat.le_add_left 1 k) a2
  by_cases hq:r.2.2 > 0
  · rw [if_pos hq]
    exact tail3_ok o (a1.rev _ _) h1' a3 (rev_eqs a1 a3 a6 o a5)
  · rw [if_neg hq]
    exact tail3_ok o a1 h1' a3 a5
theorem count_ok (o:Ord lt) {p:Array Nat} (hp:PermN n p) (hn:1≤n):kok n lt (kas_count n p) (fun r=>1≤r.1∧r.1≤n∧PermN n r.2∧Ris lt r.2 r.1):=by
  unfold kas_count
  have en:=Nat.add_sub_cancel' hn
  refine kok_bind _ (kok_mono (fun k hh_=>?_) _ (asc_ok o hp (n - 1) 1 (Nat.le_refl _) (Nat.le_of_eq en) fun i j hij hj=>by
    have e2:j=0:=Nat.lt_one_iff.mp hj
    subst e2
    have e1:i=0:=Nat.le_zero.mp hij
    subst e1; exact o.irr _))
  obtain ⟨a1,a2,a3,a4⟩:=hh_
  have a2:k≤n:=Nat.le_trans a2 (Nat.le_of_eq en)
  by_cases hk:(k == n)=true
  · rw [if_pos hk]
    exact ⟨a1,a2,hp,a3⟩
  · rw [if_neg hk]
    have hkn:k≠n:=by simpa using hk
    have kn:k < n:=Nat.lt_of_le_of_ne a2 hkn
    have k1:k - 1 < k:=Nat.sub_lt a1 Nat.one_pos
    have hlt:lt (p.getD k 0) (p.getD (k - 1) 0)=true:=by
      rcases a4 with e | e
      · exact absurd (e.trans en) hkn
      · exact e
    have hc:=o.asym _ _ hlt
    by_cases h1:k > 1
    · rw [if_pos h1]
      refine ⟨hp.bd (Nat.lt_of_lt_of_le Nat.one_pos hn),hp.bd (Nat.lt_trans k1 kn),?_⟩
      cases c:lt (p.getD 0 0) (p.getD (k - 1) 0) with
      | true=>
        (try dsimp only); rw [if_pos rfl]
        exact ⟨a1,a2,hp,a3⟩
      | false=>
        (try dsimp only); rw [if_neg Bool.false_ne_true]
        have alike:∀ i j,i < k→j < k→lt (p.getD i 0) (p.getD j 0)=false:=fun i j hi hj=>
          o.trans _ _ _ (o.trans _ _ _ (a3 j (k - 1) (Nat.le_sub_one_of_lt hj) k1) c) (a3 0 i (Nat.zero_le _) hi)
        refine descPart_ok o (hp.rev _ _) a1 kn fun i j hij hj=>?_
        rw [rev_get hp a2,rev_get hp a2]
        by_cases hjk:j < k
        · have hi:0≤i∧i < k:=⟨Nat.zero_le _,Nat.lt_of_le_of_lt hij hjk⟩
          rw [if_pos hi,if_pos ⟨Nat.zero_le _,hjk⟩]
          exact alike _ _ (mirr hi).2 (mirr ⟨Nat.zero_le _,hjk⟩).2
        · have ej:j=k:=Nat.le_antisymm (Nat.le_of_lt_succ hj) (Nat.le_of_not_lt hjk)
          subst ej
          rw [if_neg (fun z:0≤j∧j < j=>Nat.lt_irrefl _ z.2)]
          by_cases hij':i < j
          · rw [if_pos ⟨Nat.zero_le _,hij'⟩]
            exact o.trans _ _ _ hc (alike _ _ (mirr ⟨Nat.zero_le _,hij'⟩).2 k1)
          · rw [if_neg fun z=>hij' z.2]
            have:i=j:=Nat.le_antisymm hij (Nat.le_of_not_lt hij')
            subst this
            exact o.irr _
    · rw [if_neg h1]
      have ek:k=1:=Nat.le_antisymm (Nat.le_of_not_lt h1) a1
      subst ek
      refine descPart_ok o hp (Nat.le_refl _) kn fun i j hij hj=>?_
      by_cases hij':i=j
      · subst hij'; exact o.irr _
      · have lj:i < j:=Nat.lt_of_le_of_ne hij hij'
        have e2:j=1:=Nat.le_antisymm (Nat.le_of_lt_succ hj) (Nat.lt_of_le_of_lt (Nat.zero_le i) lj)
        subst e2
        have e1:i=0:=Nat.lt_one_iff.mp lj
        subst e1
        exact hc
theorem place_ok (o:Ord lt) {p:Array Nat} (hp:PermN n p) {k:Nat} (hk:k < n) (hr:Ris lt p k):∀ (f l r:Nat),l≤r→r≤k→r - l≤f→(∀ i,i < l→lt (p.getD k 0) (p.getD i 0)=false)→(∀ i,r≤i→i < k→lt (p.getD k 0) (p.getD i 0)=true)→
    kok n lt (kas_place p k f l r) (fun m=>m≤k∧(∀ i,i < m→lt (p.getD k 0) (p.getD i 0)=false)∧∀ i,m≤i→i < k→lt (p.getD k 0) (p.getD i 0)=true):=by
  intro f
  induction f with
  | zero=>
    intro l r h1 h2 h3 h4 h5
    have e:l=r:=Nat.le_antisymm h1 (Nat.le_of_sub_eq_zero (Nat.le_zero.mp h3))
    subst e
    exact ⟨h2,h4,h5⟩
  | succ f ih=>
    intro l r h1 h2 h3 h4 h5
    unfold kas_place
    by_cases hlr:l ≥ r
    · rw [if_pos hlr]
      have e:l=r:=Nat.le_antisymm h1 hlr
      subst e
      exact ⟨h2,h4,h5⟩
    · rw [if_neg hlr]
      have mid:l≤(l + r) / 2∧(l + r) / 2 < r∧(l + r) / 2 - l≤f∧r - ((l + r) / 2 + 1)≤f:=by
        clear h4 h5 hr hp ih h2 hk
        omega
      obtain ⟨m1,m2,m3,m4⟩:=mid
      refine ⟨hp.bd hk,hp.bd (Nat.lt_trans (Nat.lt_of_lt_of_le m2 h2) hk),?_⟩
      cases c:lt (p.getD k 0) (p.getD ((l + r) / 2) 0) with
      | true=>
        (try dsimp only); rw [if_pos rfl]
        refine ih l _ m1 (Nat.le_trans (Nat.le_of_lt m2) h2) m3 h4 fun i a1 a2=>?_
        cases q:lt (p.getD k 0) (p.getD i 0) with
        | true=>rfl
        | false=>
          have:=o.trans _ _ _ (hr ((l + r) / 2) i a1 a2) q
          rw [c] at this
          cases this
      | false=>
        (try dsimp only); rw [if_neg Bool.false_ne_true]
        exact ih _ r m2 h2 m4 (fun i a1=>o.trans _ _ _ (hr i ((l + r) / 2) (Nat.le_of_lt_succ a1) (Nat.lt_of_lt_of_le m2 h2)) c) h5
theorem bub_get {p:Array Nat} (hp:PermN n p) {k l:Nat} (hk:k < n) (hl:l≤k) (i:Nat):(bubble p k (k - l)).getD i 0=if i=l then p.getD k 0 else if l < i∧i≤k then p.getD (i - 1) 0 else p.getD i 0:=by
  have e:=getElem?_bubble (xs:=p) (src:=k) (by rw [hp.size]; exact hk) (k - l) (Nat.sub_le _ _) i
  rw [Nat.sub_sub_self hl] at e
  by_cases h1:i=l
  · rw [if_pos h1] at e ⊢; exact getD_eq e
  · rw [if_neg h1] at e ⊢
    by_cases h2:l < i∧i≤k
    · rw [if_pos h2] at e ⊢; exact getD_eq e
    · rw [if_neg h2] at e ⊢; exact getD_eq e
theorem bub_ris (o:Ord lt) {p:Array Nat} (hp:PermN n p) {k l:Nat} (kn:k < n) (hr:Ris lt p k) (a1:l≤k) (a2:∀ i,i < l→lt (p.getD k 0) (p.getD i 0)=false) (a3:∀ i,l≤i→i < k→lt (p.getD k 0) (p.getD i 0)=true):Ris lt (bubble p k (k - l)) (k + 1):=by
  intro i j hij hj
  have jk:j≤k:=Nat.le_of_lt_succ hj
  have jl:l < j→j - 1 < k:=fun z=>Nat.lt_of_lt_of_le (Nat.sub_lt (Nat.lt_of_le_of_lt (Nat.zero_le l) z) Nat.one_pos) jk
  rw [bub_get hp kn a1,bub_get hp kn a1]
  by_cases ei:i=l
  · rw [if_pos ei]
    by_cases ej:j=l
    · rw [if_pos ej]; exact o.irr _
    · have lj:l < j:=Nat.lt_of_le_of_ne (ei ▸ hij) (Ne.symm ej)
      rw [if_neg ej,if_pos ⟨lj,jk⟩]
      exact o.asym _ _ (a3 (j - 1) (Nat.le_sub_one_of_lt lj) (jl lj))
  · rw [if_neg ei]
    by_cases ej:j=l
    · have il:i≤l:=ej ▸ hij
      rw [if_pos ej,if_neg fun z=>Nat.lt_irrefl _ (Nat.lt_of_lt_of_le z.1 il)]
      exact a2 i (Nat.lt_of_le_of_ne il ei)
    · rw [if_neg ej]
      by_cases ci:l < i∧i≤k
      · have lj:=Nat.lt_of_lt_of_le ci.1 hij
        rw [if_pos ci,if_pos ⟨lj,jk⟩]
        exact hr _ _ (Nat.sub_le_sub_right hij 1) (jl lj)
      · rw [if_neg ci]
        by_cases cj:l < j∧j≤k
        · rw [if_pos cj]
          exact hr _ _ (Nat.le_sub_one_of_lt (Nat.lt_of_le_of_lt (Nat.le_of_not_lt fun z=>ci ⟨z,Nat.le_trans hij jk⟩) cj.1)) (jl cj.1)
        · rw [if_neg cj]
          exact hr _ _ hij (Nat.lt_of_lt_of_le (Nat.lt_of_le_of_ne (Nat.le_of_not_lt fun z=>cj ⟨z,jk⟩) ej) a1)
theorem bin_ok (o:Ord lt):∀ (f:Nat) (p:Array Nat) (k:Nat),PermN n p→k + f=n→Ris lt p k→kok n lt (kas_bin f p k) (fun r=>PermN n r∧Ris lt r n):=by
  intro f
  induction f with
  | zero=>exact fun p k hp hk hr=>⟨hp,by rw [← hk]; exact hr⟩
  | succ f ih=>
    intro p k hp hk hr
    have kn:k < n:=hk ▸ Nat.lt_add_of_pos_right (Nat.succ_pos f)
    unfold kas_bin
    refine kok_bind _ (kok_mono (fun l hh_=>?_) _ (place_ok o hp kn hr k 0 k (Nat.zero_le _) (Nat.le_refl _) (Nat.le_refl _) (fun i hi=>absurd hi (Nat.not_lt_zero _)) fun i h1 h2=>absurd h2 (Nat.not_lt_of_le h1)))
    obtain ⟨a1,a2,a3⟩:=hh_
    exact ih _ (k + 1) (hp.bub _ _) ((Nat.add_right_comm k 1 f).trans hk) (bub_ris o hp kn hr a1 a2 a3)
theorem range_perm (n:Nat):PermN n (List.toArray (List.range n)):=⟨by simp,by simp⟩
theorem kas_sort_ok (o:Ord lt) (hn:1≤n):kok n lt (kas_sort n) (fun r=>PermN n r∧Ris lt r n):=by
  unfold kas_sort
  refine kok_bind _ (kok_mono (fun r hh_=>?_) _ (count_ok o (range_perm n) hn))
  obtain ⟨a1,a2,a3,a4⟩:=hh_
  by_cases hr:r.1 < n
  · rw [if_pos hr]
    have e:max r.1 1=r.1:=Nat.max_eq_left a1
    rw [e]
    exact bin_ok o _ _ _ a3 (Nat.add_sub_cancel' a2) a4
  · rw [if_neg hr]
    have e:r.1=n:=Nat.le_antisymm a2 (Nat.le_of_not_lt hr)
    rw [e] at a4
    exact ⟨a3,a4⟩
end
section
variable {prog:Program} {w:World} {A:Around} {E:Value→Shared→Prop} {s:Shared}
noncomputable def outOf (vs:List Value) (p:Array Nat):Array Value:=(p.toList.map fun i=>vs.getD i Value.none).toArray
theorem out_small (vs:List Value) (h:vs.length < 2):outOf vs (List.toArray (List.range vs.length))=(vs.toArray.zip vs.toArray).map (·.2):=by
  cases vs with
  | nil=>simp [outOf]
  | cons v r=>
    cases r with
    | nil=>simp [outOf,List.range,List.range.loop]
    | cons _ _=>simp at h; omega
theorem list_sort_gen {a:Addr} {vs:List Value} {n:Nat} {P:PySem.Fin→Shared→Prop} (ho:s.heap.get? a=some (seqObj "list" vs.toArray n)) (h64:vs.length < 64) (κ:SortKind) (lt:Nat→Nat→Bool) (o:Ord lt)
    (hk:2≤vs.length→∀ h',(∀ b u,b≠a→s.heap.get? b=some u→h'.get? b=some u)→∀ Q:SortKind→Shared→Prop,Q κ { s with heap:=h' }→wpAny (model prog w) A (keyKind' vs.toArray) Q E { s with heap:=h' })
    (hc:∀ h',(∀ b u,b≠a→s.heap.get? b=some u→h'.get? b=some u)→∀ i j C,i < vs.length→j < vs.length→C (lt i j) { s with heap:=h' }→kas_ask prog w A κ vs i j C { s with heap:=h' })
    (h:∀ p,PermN vs.length p→Ris lt p vs.length→P (.done (.ret .none)) { s with heap:=sortedHeap s.heap a vs (outOf vs p) }) :
    wpAny (model prog w) A (Builtin.«list.sort» ⟨[.ref a],[]⟩) P E s:=by
  rw [list_sort_plain]
  have ha:a < s.heap.objs.size:=Heap.lt_size ho
  refine wpAny_bind (listItems_at ho rfl ?_)
  refine wpAny_bind (listUpdate_at ho rfl ?_ (by rw [List.size_toArray,sizeLine_eq]; omega) (Nat.zero_le _))
  obtain ⟨e1,ho1⟩:∃ e1,(s.heap.update a (Obj.mapSeq fun _=>(#[]:Array Value))).get? a=some (seqObj "list" #[] e1):=⟨_,get?_update_seq ho (fun _=>#[])⟩
  refine wpAny_bind (seqEpoch_at ho1 rfl ?_)
  refine wpAny_bind (wpAny_newTuple ?_ (by show vs.length≤_; rw [sizeLine_eq]; omega))
  refine wpAny_bind (wpAny_newList ?_ (Nat.zero_le _))
  refine wpAny_holding ?_
  have ho6:(((s.heap.update a (Obj.mapSeq fun _=>(#[]:Array Value))).push (seqObj "tuple" vs.toArray 0)).push (seqObj "list" #[] 0)).get? a=some (seqObj "list" #[] e1):=by
    rw [Heap.get?_push_ne _ _ _ (by rw [size_push',Heap.size_update]; exact Nat.ne_of_lt (Nat.lt_succ_of_lt ha)),Heap.get?_push_ne _ _ _ (by rw [Heap.size_update]; exact Nat.ne_of_lt ha)]
    exact ho1
  have kept:∀ b u,b≠a→s.heap.get? b=some u→(((s.heap.update a (Obj.mapSeq fun _=>(#[]:Array Value))).push (seqObj "tuple" vs.toArray 0)).push (seqObj "list" #[] 0)).get? b=some u:=fun b u hb e=>by
    have hlt:b < s.heap.objs.size:=Heap.lt_size e
    rw [Heap.get?_push_ne _ _ _ (by rw [size_push',Heap.size_update]; exact Nat.ne_of_lt (Nat.lt_succ_of_lt hlt)),Heap.get?_push_ne _ _ _ (by rw [Heap.size_update]; exact Nat.ne_of_lt hlt),Heap.get?_update_ne _ _ _ _ hb]
    exact e
  show wpAny (model prog w) A _ P E { s with heap:=((s.heap.update a (Obj.mapSeq fun _=>(#[]:Array Value))).push (seqObj "tuple" vs.toArray 0)).push (seqObj "list" #[] 0) }
  dsimp only
  have hsz:vs.toArray.size=vs.length:=by simp
  by_cases h2:vs.toArray.size < 2
  · rw [if_pos h2,if_pos h2]
    refine wpAny_bind (wpAny_pure ?_)
    rw [StateT.run_pure]
    refine wpAny_bind (wpAny_pure ?_)
    dsimp only
    refine wpAny_bind (seqEpoch_at ho6 rfl ?_)
    refine wpAny_bind (listUpdate_at ho6 rfl ?_ (Nat.zero_le _) (by rw [Array.size_map]; show (pairsOf vs).size≤_; rw [pairsOf_size,sizeLine_eq]; omega))
    simp only [bne_self_eq_false,Bool.false_eq_true,if_false]
    have q:=h (List.toArray (List.range vs.length)) (range_perm _) (fun i j hij hj=>by
      have e1:i=j:=by omega
      subst e1
      exact o.irr _)
    have e:outOf vs (List.toArray (List.range vs.length))=(vs.toArray.zip vs.toArray).map (·.2):=by
      exact out_small vs (by omega)
    rw [e] at q
    exact wpAny_pure q
  · rw [if_neg h2,if_neg h2]
    have h2':2≤vs.length:=by omega
    refine wpAny_bind (hk h2' _ kept _ ?_)
    refine wpAny_bind (wpAny_mono (kat_run (Q:=fun st' s'=>s'={ s with heap:=((s.heap.update a (Obj.mapSeq fun _=>(#[]:Array Value))).push (seqObj "tuple" vs.toArray 0)).push (seqObj "list" #[] 0) }∧∃ p:Array Nat,PermN vs.length p∧Ris lt p vs.length∧arrOf st'=p.map (kas_item (vs.toArray.zip vs.toArray))∧failedOf st'=none)
      (G:=fun p s'=>s'={ s with heap:=((s.heap.update a (Obj.mapSeq fun _=>(#[]:Array Value))).push (seqObj "tuple" vs.toArray 0)).push (seqObj "list" #[] 0) }∧PermN vs.length p∧Ris lt p vs.length)
      rfl h2' h64 (fun p st' s' a1 a2 a3 ⟨b1,b2,b3⟩=>⟨b1,p,b2,b3,a2,a3⟩) (kok_wp (hc _ kept) (fun p ⟨b2,b3⟩=>⟨rfl,b2,b3⟩) _ (kas_sort_ok o (by omega)))) ?_ fun _ _ e=>e)
    rintro ⟨⟨⟩,st'⟩ s' ⟨rfl,p,hp,hr,har,hf⟩
    dsimp only
    have hout:=kat_snds rfl har
    rw [hout]
    refine wpAny_bind (seqEpoch_at ho6 rfl ?_)
    refine wpAny_bind (listUpdate_at ho6 rfl ?_ (Nat.zero_le _) (by rw [List.size_toArray,List.length_map,Array.length_toList,hp.size,sizeLine_eq]; omega))
    rw [hf]
    simp only [bne_self_eq_false,Bool.false_eq_true,if_false]
    exact wpAny_pure (h p hp hr)
end
theorem cps_inj {x y:Str} (h:x.cps.toList=y.cps.toList):x=y:=by
  cases x; cases y
  congr
  exact Array.toList_inj.mp h
mutual
theorem eqd_iff:∀ x y:D,cmpOk x y=true→(eqd x y=true↔x=y)
  | .int i,.int j,_=>by simp [eqd,toPy,PyData.eqv]
  | .bl a,.bl b,_=>by simp [eqd,toPy,PyData.eqv]
  | .str a,.str b,_=>by simp [eqd,toPy,PyData.eqv]
  | .tup xs,.tup ys,h=>by
    have:=eqds_iff xs ys (by simpa [cmpOk] using h)
    simp only [eqd,toPy,PyData.eqv,D.tup.injEq]
    exact this
  | .non,y,h=>by cases y <;> simp [cmpOk] at h
  | .lst _,y,h=>by cases y <;> simp [cmpOk] at h
  | .dT _,y,h=>by cases y <;> simp [cmpOk] at h
  | .dK _,y,h=>by cases y <;> simp [cmpOk] at h
  | .ins _ _,y,h=>by cases y <;> simp [cmpOk] at h
  | .int _,.non,h=>by simp [cmpOk] at h
  | .int _,.bl _,h=>by simp [cmpOk] at h
  | .int _,.str _,h=>by simp [cmpOk] at h
  | .int _,.tup _,h=>by simp [cmpOk] at h
  | .int _,.lst _,h=>by simp [cmpOk] at h
  | .int _,.dT _,h=>by simp [cmpOk] at h
  | .int _,.dK _,h=>by simp [cmpOk] at h
  | .int _,.ins _ _,h=>by simp [cmpOk] at h
  | .bl _,.non,h=>by simp [cmpOk] at h
  | .bl _,.int _,h=>by simp [cmpOk] at h
  | .bl _,.str _,h=>by simp [cmpOk] at h
  | .bl _,.tup _,h=>by simp [cmpOk] at h
  | .bl _,.lst _,h=>by simp [cmpOk] at h
  | .bl _,.dT _,h=>by simp [cmpOk] at h
  | .bl _,.dK _,h=>by simp [cmpOk] at h
  | .bl _,.ins _ _,h=>by simp [cmpOk] at h
  | .str _,.non,h=>by simp [cmpOk] at h
  | .str _,.bl _,h=>by simp [cmpOk] at h
  | .str _,.int _,h=>by simp [cmpOk] at h
  | .str _,.tup _,h=>by simp [cmpOk] at h
  | .str _,.lst _,h=>by simp [cmpOk] at h
  | .str _,.dT _,h=>by simp [cmpOk] at h
  | .str _,.dK _,h=>by simp [cmpOk] at h
  | .str _,.ins _ _,h=>by simp [cmpOk] at h
  | .tup _,.non,h=>by simp [cmpOk] at h
  | .tup _,.bl _,h=>by simp [cmpOk] at h
  | .tup _,.int _,h=>by simp [cmpOk] at h
  | .tup _,.str _,h=>by simp [cmpOk] at h
  | .tup _,.lst _,h=>by simp [cmpOk] at h
  | .tup _,.dT _,h=>by simp [cmpOk] at h
  | .tup _,.dK _,h=>by simp [cmpOk] at h
  | .tup _,.ins _ _,h=>by simp [cmpOk] at h
theorem eqds_iff:∀ xs ys:List D,cmpOks xs ys=true→(PyData.eqvAll (toPys xs) (toPys ys)=true↔xs=ys)
  | [],[],_=>by simp [toPys,PyData.eqvAll]
  | [],_::_,_=>by simp [toPys,PyData.eqvAll]
  | _::_,[],_=>by simp [toPys,PyData.eqvAll]
  | x::xs,y::ys,h=>by
    rw [cmpOks,Bool.and_eq_true] at h
    have h1:=eqd_iff x y h.1
    have h2:=eqds_iff xs ys h.2
    simp only [toPys,PyData.eqvAll,Bool.and_eq_true,List.cons.injEq]
    rw [h2]
    unfold eqd at h1
    rw [h1]
end
structure Fc2 {α:Type} (l:α→α→Bool) (x y:α):Prop where
  as:l x y=true→l y x=false
  an:l x y=false→l y x=false→x=y
noncomputable def Fc3 {α:Type} (l:α→α→Bool) (x y z:α):Prop:=l x y=true→l y z=true→l x z=true
theorem cmpOk_inv {x y:D} (h:cmpOk x y=true):(∃ i j,x=.int i∧y=.int j)∨(∃ i j,x=.bl i∧y=.bl j)∨(∃ i j,x=.str i∧y=.str j)∨∃ i j,x=.tup i∧y=.tup j∧cmpOks i j=true:=by
  cases x with
  | int i=>
    refine .inl ?_
    cases y with
    | int j=>exact ⟨_,_,rfl,rfl⟩
    | _=>exact absurd h Bool.false_ne_true
  | bl i=>
    refine .inr (.inl ?_)
    cases y with
    | bl j=>exact ⟨_,_,rfl,rfl⟩
    | _=>exact absurd h Bool.false_ne_true
  | str i=>
    refine .inr (.inr (.inl ?_))
    cases y with
    | str j=>exact ⟨_,_,rfl,rfl⟩
    | _=>exact absurd h Bool.false_ne_true
  | tup i=>
    refine .inr (.inr (.inr ?_))
    cases y with
    | tup j=>exact ⟨_,_,rfl,rfl,h⟩
    | _=>exact absurd h Bool.false_ne_true
  | _=>exact absurd h Bool.false_ne_true
theorem str_lt_as {a b:List Nat} (h:a < b):¬ b < a:=fun h'=>List.lt_irrefl a (List.lt_trans h h')
theorem fc2_scal {x y:D} (h1:cmpOk x y=true) (ht:isTup x=false):Fc2 ltD x y:=by
  rcases cmpOk_inv h1 with ⟨i,j,rfl,rfl⟩ | ⟨i,j,rfl,rfl⟩ | ⟨i,j,rfl,rfl⟩ | ⟨i,j,rfl,rfl,_⟩
  · refine ⟨fun h=>?_,fun h h'=>?_⟩
    · simp only [ltD,decide_eq_true_eq,decide_eq_false_iff_not] at h ⊢; omega
    · simp only [ltD,decide_eq_false_iff_not] at h h'; rw [show i=j by omega]
  · refine ⟨fun h=>?_,fun h h'=>?_⟩
    · cases i <;> cases j <;> simp_all [ltD]
    · cases i <;> cases j <;> simp_all [ltD]
  · refine ⟨fun h=>?_,fun h h'=>?_⟩
    · simp only [ltD,decide_eq_true_eq,decide_eq_false_iff_not] at h ⊢; exact str_lt_as h
    · simp only [ltD,decide_eq_false_iff_not] at h h'
      rw [cps_inj (List.le_antisymm h' h)]
  · cases ht
theorem fc3_scal {x y z:D} (h1:cmpOk x y=true) (h2:cmpOk y z=true) (ht:isTup x=false):Fc3 ltD x y z:=by
  rcases cmpOk_inv h1 with ⟨i,j,rfl,rfl⟩ | ⟨i,j,rfl,rfl⟩ | ⟨i,j,rfl,rfl⟩ | ⟨i,j,rfl,rfl,_⟩
  · rcases cmpOk_inv h2 with ⟨j',k,e,rfl⟩ | ⟨j',k,e,rfl⟩ | ⟨j',k,e,rfl⟩ | ⟨j',k,e,rfl,_⟩ <;> cases e
    intro h h'
    simp only [ltD,decide_eq_true_eq] at h h' ⊢; omega
  · rcases cmpOk_inv h2 with ⟨j',k,e,rfl⟩ | ⟨j',k,e,rfl⟩ | ⟨j',k,e,rfl⟩ | ⟨j',k,e,rfl,_⟩ <;> cases e
    intro h h'
    cases i <;> cases j <;> cases k <;> simp_all [ltD]
  · rcases cmpOk_inv h2 with ⟨j',k,e,rfl⟩ | ⟨j',k,e,rfl⟩ | ⟨j',k,e,rfl⟩ | ⟨j',k,e,rfl,_⟩ <;> cases e
    intro h h'
    simp only [ltD,decide_eq_true_eq] at h h' ⊢; exact List.lt_trans h h'
  · cases ht
theorem cmpOk_sym (n:Nat):∀ x y:D,okN n x=true→cmpOk x y=true→cmpOk y x=true:=by
  induction n with
  | zero=>
    intro x y o h
    rcases cmpOk_inv h with ⟨i,j,rfl,rfl⟩ | ⟨i,j,rfl,rfl⟩ | ⟨i,j,rfl,rfl⟩ | ⟨i,j,rfl,rfl,_⟩
    · rfl
    · rfl
    · rfl
    · simp [okN] at o
  | succ n ih=>
    intro x y o h
    rcases cmpOk_inv h with ⟨i,j,rfl,rfl⟩ | ⟨i,j,rfl,rfl⟩ | ⟨i,j,rfl,rfl⟩ | ⟨i,j,rfl,rfl,hc⟩
    · rfl
    · rfl
    · rfl
    · have key:∀ (xs ys:List D),(∀ d∈xs,okN n d=true)→cmpOks xs ys=true→cmpOks ys xs=true:=by
        intro xs
        induction xs with
        | nil=>intro ys _ _; cases ys <;> simp [cmpOks]
        | cons x xs ihx=>
          intro ys ho hc
          cases ys with
          | nil=>simp [cmpOks]
          | cons y ys=>
            rw [cmpOks,Bool.and_eq_true] at hc ⊢
            exact ⟨ih x y (ho x List.mem_cons_self) hc.1,ihx ys (fun d hd=>ho d (List.mem_cons_of_mem _ hd)) hc.2⟩
      rw [cmpOk]
      exact key i j (okN_all o) hc
theorem fc2_lex {n:Nat} (ih:∀ x y:D,okN n x=true→okN n y=true→cmpOk x y=true→Fc2 ltD x y) :
    ∀ (xs ys:List D),(∀ d∈xs,okN n d=true)→(∀ d∈ys,okN n d=true)→cmpOks xs ys=true→Fc2 lexD xs ys:=by
  intro xs
  induction xs with
  | nil=>
    intro ys _ _ _
    refine ⟨fun h=>?_,fun h h'=>?_⟩
    · cases ys <;> simp_all [lexD]
    · cases ys <;> simp_all [lexD]
  | cons x xs ihx=>
    intro ys ox oy c1
    cases ys with
    | nil=>
      refine ⟨fun h=>?_,fun h h'=>?_⟩
      · simp [lexD] at h
      · simp [lexD] at h'
    | cons y ys=>
      rw [cmpOks,Bool.and_eq_true] at c1
      have px:=ox x List.mem_cons_self
      have py:=oy y List.mem_cons_self
      have exy:=eqd_iff x y c1.1
      have eyx:=eqd_iff y x (cmpOk_sym n x y px c1.1)
      have G:=ihx ys (fun d hd=>ox d (List.mem_cons_of_mem _ hd)) (fun d hd=>oy d (List.mem_cons_of_mem _ hd)) c1.2
      refine ⟨fun h=>?_,fun h h'=>?_⟩
      · rw [lexD] at h ⊢
        by_cases hxy:x=y
        · rw [if_pos (exy.mpr hxy)] at h
          rw [if_pos (eyx.mpr hxy.symm)]
          exact G.as h
        · rw [if_neg (fun q=>hxy (exy.mp q))] at h
          rw [if_neg (fun q=>hxy (eyx.mp q).symm)]
          exact (ih x y px py c1.1).as h
      · rw [lexD] at h h'
        by_cases hxy:x=y
        · rw [if_pos (exy.mpr hxy)] at h
          rw [if_pos (eyx.mpr hxy.symm)] at h'
          rw [hxy,G.an h h']
        · rw [if_neg (fun q=>hxy (exy.mp q))] at h
          rw [if_neg (fun q=>hxy (eyx.mp q).symm)] at h'
          exact absurd ((ih x y px py c1.1).an h h') hxy
theorem fc2_all (n:Nat):∀ x y:D,okN n x=true→okN n y=true→cmpOk x y=true→Fc2 ltD x y:=by
  induction n with
  | zero=>
    intro x y ox oy c1
    refine fc2_scal c1 ?_
    cases x <;> first | rfl | (simp [okN] at ox)
  | succ n ih=>
    intro x y ox oy c1
    rcases cmpOk_inv c1 with ⟨i,j,rfl,rfl⟩ | ⟨i,j,rfl,rfl⟩ | ⟨i,j,rfl,rfl⟩ | ⟨i,j,rfl,rfl,d1⟩
    · exact fc2_scal c1 rfl
    · exact fc2_scal c1 rfl
    · exact fc2_scal c1 rfl
    · have F:=fc2_lex ih i j (okN_all ox) (okN_all oy) d1
      refine ⟨fun h=>?_,fun h h'=>?_⟩
      · rw [ltD] at h ⊢; exact F.as h
      · rw [ltD] at h h'; rw [F.an h h']
theorem fc3_lex {n:Nat} (ih:∀ x y z:D,okN n x=true→okN n y=true→okN n z=true→cmpOk x y=true→cmpOk y z=true→cmpOk x z=true→Fc3 ltD x y z) :
    ∀ (xs ys zs:List D),(∀ d∈xs,okN n d=true)→(∀ d∈ys,okN n d=true)→(∀ d∈zs,okN n d=true)→cmpOks xs ys=true→cmpOks ys zs=true→cmpOks xs zs=true→Fc3 lexD xs ys zs:=by
  intro xs
  induction xs with
  | nil=>
    intro ys zs _ _ _ _ _ _ h h'
    cases ys <;> cases zs <;> simp_all [lexD]
  | cons x xs ihx=>
    intro ys zs ox oy oz c1 c2 c3 h h'
    cases ys with
    | nil=>simp [lexD] at h
    | cons y ys=>
      rw [cmpOks,Bool.and_eq_true] at c1
      have px:=ox x List.mem_cons_self
      have py:=oy y List.mem_cons_self
      have exy:=eqd_iff x y c1.1
      cases zs with
      | nil=>simp [lexD] at h'
      | cons z zs=>
        rw [cmpOks,Bool.and_eq_true] at c2 c3
        have pz:=oz z List.mem_cons_self
        have eyz:=eqd_iff y z c2.1
        have exz:=eqd_iff x z c3.1
        have F:=ih x y z px py pz c1.1 c2.1 c3.1
        rw [lexD] at h h' ⊢
        by_cases hxy:x=y
        · rw [if_pos (exy.mpr hxy)] at h
          by_cases hyz:y=z
          · rw [if_pos (eyz.mpr hyz)] at h'
            rw [if_pos (exz.mpr (hxy.trans hyz))]
            exact ihx ys zs (fun d hd=>ox d (List.mem_cons_of_mem _ hd)) (fun d hd=>oy d (List.mem_cons_of_mem _ hd)) (fun d hd=>oz d (List.mem_cons_of_mem _ hd)) c1.2 c2.2 c3.2 h h'
          · rw [if_neg (fun q=>hyz (eyz.mp q))] at h'
            rw [if_neg (fun q=>hyz (hxy.symm.trans (exz.mp q)))]
            rw [hxy]; exact h'
        · rw [if_neg (fun q=>hxy (exy.mp q))] at h
          by_cases hyz:y=z
          · rw [if_neg (fun q=>hxy ((exz.mp q).trans hyz.symm))]
            rw [← hyz]; exact h
          · rw [if_neg (fun q=>hyz (eyz.mp q))] at h'
            have hxz:=F h h'
            by_cases he:x=z
            · subst he
              have:=(fc2_all n x y px py c1.1).as h
              rw [h'] at this
              cases this
            · rw [if_neg (fun q=>he (exz.mp q))]
              exact hxz
theorem fc3_all (n:Nat):∀ x y z:D,okN n x=true→okN n y=true→okN n z=true→cmpOk x y=true→cmpOk y z=true→cmpOk x z=true→Fc3 ltD x y z:=by
  induction n with
  | zero=>
    intro x y z ox oy oz c1 c2 c3
    refine fc3_scal c1 c2 ?_
    cases x <;> first | rfl | (simp [okN] at ox)
  | succ n ih=>
    intro x y z ox oy oz c1 c2 c3
    rcases cmpOk_inv c1 with ⟨i,j,rfl,rfl⟩ | ⟨i,j,rfl,rfl⟩ | ⟨i,j,rfl,rfl⟩ | ⟨i,j,rfl,rfl,d1⟩
    · exact fc3_scal c1 c2 rfl
    · exact fc3_scal c1 c2 rfl
    · exact fc3_scal c1 c2 rfl
    · rcases cmpOk_inv c2 with ⟨j',k,e,rfl⟩ | ⟨j',k,e,rfl⟩ | ⟨j',k,e,rfl⟩ | ⟨j',k,e,rfl,d2⟩ <;> cases e
      have F:=fc3_lex ih i j k (okN_all ox) (okN_all oy) (okN_all oz) d1 d2 (by simpa [cmpOk] using c3)
      intro h h'
      rw [ltD] at h h' ⊢
      exact F h h'
noncomputable def insD (x:D):List D→List D
  | []=>[x]
  | y::r=>if ltD x y=true then x::y::r else y::insD x r
noncomputable def sortD:List D→List D
  | []=>[]
  | x::r=>insD x (sortD r)
theorem insD_perm (x:D):∀ l:List D,(insD x l).Perm (x::l)
  | []=>.refl _
  | y::r=>by
    unfold insD
    split
    · exact .refl _
    · exact ((insD_perm x r).cons y).trans (.swap x y r)
theorem sortD_perm:∀ l:List D,(sortD l).Perm l
  | []=>.refl _
  | x::r=>(insD_perm x (sortD r)).trans ((sortD_perm r).cons x)
noncomputable def Cmps (n:Nat) (ds:List D):Prop:=(∀ d∈ds,okN n d=true)∧∀ x∈ds,∀ y∈ds,cmpOk x y=true
theorem sorted_uniq {n:Nat}:∀ {as bs:List D},as.Perm bs→Cmps n as→as.Pairwise (fun x y=>ltD y x=false)→bs.Pairwise (fun x y=>ltD y x=false)→as=bs:=by
  intro as
  induction as with
  | nil=>intro bs hp _ _ _; exact (List.Perm.nil_eq hp)
  | cons a as ih=>
    intro bs hp hc pa pb
    cases bs with
    | nil=>exact absurd hp.symm (List.not_perm_nil_cons _ _)
    | cons b bs=>
      have ma:a∈b::bs:=hp.mem_iff.mp List.mem_cons_self
      have mb:b∈a::as:=hp.mem_iff.mpr List.mem_cons_self
      have e:a=b:=by
        rcases List.mem_cons.mp ma with h | h
        · exact h
        · rcases List.mem_cons.mp mb with h' | h'
          · exact h'.symm
          · have l1:=(List.pairwise_cons.mp pa).1 b h'
            have l2:=(List.pairwise_cons.mp pb).1 a h
            exact (fc2_all n a b (hc.1 a List.mem_cons_self) (hc.1 b mb) (hc.2 a List.mem_cons_self b mb)).an l2 l1
      subst e
      rw [ih (List.Perm.cons_inv hp) ⟨fun d hd=>hc.1 d (List.mem_cons_of_mem _ hd),fun x hx y hy=>hc.2 x (List.mem_cons_of_mem _ hx) y (List.mem_cons_of_mem _ hy)⟩ (List.pairwise_cons.mp pa).2 (List.pairwise_cons.mp pb).2]
theorem Cmps.perm {n:Nat} {as bs:List D} (h:Cmps n as) (p:as.Perm bs):Cmps n bs:=⟨fun d hd=>h.1 d (p.mem_iff.mpr hd),fun x hx y hy=>h.2 x (p.mem_iff.mpr hx) y (p.mem_iff.mpr hy)⟩
theorem nlt_trans {n:Nat} {x y z:D} (ox:okN n x=true) (oy:okN n y=true) (oz:okN n z=true) (cxy:cmpOk x y=true) (cyz:cmpOk y z=true) (cxz:cmpOk x z=true) (cyx:cmpOk y x=true) (czy:cmpOk z y=true) (czx:cmpOk z x=true)
    (h1:ltD y x=false) (h2:ltD z y=false):ltD z x=false:=by
  cases q:ltD z x with
  | false=>rfl
  | true=>
    -- z < x; x≤y
    by_cases hxy:ltD x y=true
    · have:=fc3_all n z x y oz ox oy czx cxy czy q hxy
      rw [h2] at this; cases this
    · have e:x=y:=(fc2_all n x y ox oy cxy).an (by simpa using hxy) h1
      subst e
      rw [h2] at q; cases q
theorem insD_sorted {n:Nat} {x:D}:∀ {l:List D},Cmps n (x::l)→l.Pairwise (fun a b=>ltD b a=false)→(insD x l).Pairwise (fun a b=>ltD b a=false)
  | [],_,_=>List.pairwise_singleton _ _
  | y::r,hc,hp=>by
    have mx:x∈x::y::r:=List.mem_cons_self
    have my:y∈x::y::r:=List.mem_cons_of_mem _ List.mem_cons_self
    obtain ⟨h1,h2⟩:=List.pairwise_cons.mp hp
    unfold insD
    split
    · rename_i q
      refine List.pairwise_cons.mpr ⟨fun z hz=>?_,hp⟩
      have hyx:ltD y x=false:=(fc2_all n x y (hc.1 x mx) (hc.1 y my) (hc.2 x mx y my)).as q
      rcases List.mem_cons.mp hz with rfl | hz
      · exact hyx
      · have mz:z∈x::y::r:=List.mem_cons_of_mem _ (List.mem_cons_of_mem _ hz)
        exact nlt_trans (hc.1 x mx) (hc.1 y my) (hc.1 z mz) (hc.2 x mx y my) (hc.2 y my z mz) (hc.2 x mx z mz) (hc.2 y my x mx) (hc.2 z mz y my) (hc.2 z mz x mx) hyx (h1 z hz)
    · rename_i q
      refine List.pairwise_cons.mpr ⟨fun z hz=>?_,insD_sorted (x:=x) ⟨fun d hd=>hc.1 d ?_,fun a ha b hb=>hc.2 a ?_ b ?_⟩ h2⟩
      · rcases List.mem_cons.mp ((insD_perm x r).mem_iff.mp hz) with rfl | hz
        · simpa using q
        · exact h1 z hz
      all_goals
        first
          | (rcases List.mem_cons.mp hd with rfl | hd
             · exact mx
             · exact List.mem_cons_of_mem _ (List.mem_cons_of_mem _ hd))
          | (rcases List.mem_cons.mp ha with rfl | ha
             · exact mx
             · exact List.mem_cons_of_mem _ (List.mem_cons_of_mem _ ha))
          | (rcases List.mem_cons.mp hb with rfl | hb
             · exact mx
             · exact List.mem_cons_of_mem _ (List.mem_cons_of_mem _ hb))
theorem Cmps.sub {n:Nat} {as bs:List D} (h:Cmps n bs) (k:∀ x∈as,x∈bs):Cmps n as:=⟨fun d hd=>h.1 d (k d hd),fun x hx y hy=>h.2 x (k x hx) y (k y hy)⟩
theorem sortD_sorted {n:Nat}:∀ {l:List D},Cmps n l→(sortD l).Pairwise (fun a b=>ltD b a=false)
  | [],_=>.nil
  | x::r,hc=>insD_sorted (hc.sub fun y hy=>by
      rcases List.mem_cons.mp hy with rfl | hy
      · exact List.mem_cons_self
      · exact List.mem_cons_of_mem _ ((sortD_perm r).mem_iff.mp hy)) (sortD_sorted (hc.sub fun y hy=>List.mem_cons_of_mem _ hy))
theorem sortD_uniq {n:Nat} {as bs:List D} (hp:as.Perm bs) (hc:Cmps n bs) (hs:as.Pairwise (fun x y=>ltD y x=false)):as=sortD bs:=
  sorted_uniq (hp.trans (sortD_perm bs).symm) (hc.perm hp.symm) hs (sortD_sorted hc)
end L2
namespace L2
open PySem PySem.Spec PyProof.Rows
section
variable {X:Cx} {e a b c o:Expr} {es:List Expr} {pos p:Pos}
theorem repN_int {K:PySem.W.Frag} {H:Hp} {x:V} {i:Int} (r:Rep K H x (.int i)):x=.int i:=by cases r; rfl
theorem repN_str {K:PySem.W.Frag} {H:Hp} {x:V} {i:Str} (r:Rep K H x (.str i)):x=.str i:=by cases r; rfl
theorem on_int0 {K:PySem.W.Frag} {g:Int→Int→V} {g':Int→Int→D} (hg:∀ F i j,Rep K F (g i j) (g' i j)):OpN2 K (rI0 g) (fI0 g'):=by
  intro P F H x y dx dy d Q hf hp rx ry k
  unfold fI0 at hf
  split at hf
  · rename_i i j
    cases hf
    exact ⟨i,j,repN_int rx,repN_int ry,k _ F H (Evo.refl hp) (hg F i j)⟩
  · cases hf
theorem OpN2.or {K:PySem.W.Frag} {r r':R2} {f g:D→D→Option D} (h:OpN2 K r f) (h':OpN2 K r' g):OpN2 K (fun x y H Q=>r x y H Q∨r' x y H Q) (fun x y=>(f x y).or (g x y)):=by
  intro P F H x y dx dy d Q hf hp rx ry k
  dsimp only at hf
  cases q:f dx dy with
  | some d'=>rw [q] at hf; have hf:=Option.some.inj hf; subst hf; exact .inl (h P F H x y dx dy _ Q q hp rx ry k)
  | none=>rw [q] at hf; exact .inr (h' P F H x y dx dy d Q hf hp rx ry k)
noncomputable def leS:D→D→Option D
  | .str x,.str y=>some (.bl (!decide (y.cps.toList < x.cps.toList)))
  | _,_=>none
noncomputable def rLeS:R2:=fun x y H Q=>∃ i j,x=.str i∧y=.str j∧Q (.bl (!decide (j.cps.toList < i.cps.toList))) H
theorem op_le_str:OpR X (compareOp .LtE) rLeS:=by
  intro pins s σ H x y v u Q I rx ry h
  obtain ⟨i,j,rfl,rfl,q⟩:=h
  obtain ⟨t,rfl⟩:=rx
  obtain ⟨t',rfl⟩:=ry
  exact PySem.P.le_str ⟨.bl _,H,I,rfl,q⟩
theorem on_leS {K:PySem.W.Frag}:OpN2 K rLeS leS:=by
  intro P F H x y dx dy d Q hf hp rx ry k
  unfold leS at hf
  split at hf
  · cases hf
    exact ⟨_,_,repN_str rx,repN_str ry,k _ F H (Evo.refl hp) .bl⟩
  · cases hf
noncomputable def leA (x y:D):Option D:=(leI x y).or (leS x y)
theorem op_leA:OpR X (compareOp .LtE) (fun x y H Q=>rI0 (fun i j=>.bl (decide (i≤j))) x y H Q∨rLeS x y H Q):=op_le.or op_le_str
theorem on_leA {K:PySem.W.Frag}:OpN2 K (fun x y H Q=>rI0 (fun i j=>.bl (decide (i≤j))) x y H Q∨rLeS x y H Q) leA:=(on_int0 fun _ _ _=>.bl).or on_leS
noncomputable def chD (f g:D→D→Option D) (fa fb fc:DF→Option D):DF→Option D:=fun ρ=>(fa ρ).bind fun x=>(fb ρ).bind fun y=>match f x y with
  | some (.bl true)=>(fc ρ).bind fun z=>g y z
  | some (.bl false)=>some (.bl false)
  | _=>none
theorem tChain_d {K:PySem.W.Frag} {r r':R2} {f g:D→D→Option D} {fa fb fc:DF→Option D} (ho:OpN2 K r f) (ho':OpN2 K r' g):∀ σ H Q,tD K (chD f g fa fb fc) σ H Q→tChain r r' (tN K fa) (tN K fb) (tN K fc) σ H Q:=fun σ H Q=>un7 fun P F ρ d hf I k=>by
  unfold chD at hf
  cases ha:fa ρ with
  | none=>rw [ha] at hf; cases hf
  | some dx=>
  cases hb:fb ρ with
  | none=>rw [ha,Option.bind_some,hb] at hf; cases hf
  | some dy=>
  rw [ha,Option.bind_some,hb,Option.bind_some] at hf
  split at hf
  · rename_i hxy
    cases hc:fc ρ with
    | none=>rw [hc] at hf; cases hf
    | some dz=>
      rw [hc,Option.bind_some] at hf
      refine ⟨P,F,ρ,dx,ha,I,fun x F1 H1 e1 rx=>⟨P,F1,ρ,dy,hb,I.evo e1,fun y F2 H2 e2 ry=>?_⟩⟩
      refine ho P F2 H2 x y dx dy _ _ hxy e2.hp (rx.same (e2.same e1.hp)) ry fun v F3 H3 e3 rv=>?_
      cases rv
      refine ⟨true,rfl,?_⟩
      rw [if_pos rfl]
      have e123:=(e1.trans e2).trans e3
      refine ⟨P,F3,ρ,dz,hc,I.evo e123,fun z F4 H4 e4 rz=>?_⟩
      exact ho' P F4 H4 y z dy dz d Q hf e4.hp ((ry.same (e3.same e2.hp)).same (e4.same e3.hp)) rz fun v F5 H5 e5 rv=>k v F5 H5 ((e123.trans e4).trans e5) rv
  · rename_i hxy
    cases hf
    refine ⟨P,F,ρ,dx,ha,I,fun x F1 H1 e1 rx=>⟨P,F1,ρ,dy,hb,I.evo e1,fun y F2 H2 e2 ry=>?_⟩⟩
    refine ho P F2 H2 x y dx dy _ _ hxy e2.hp (rx.same (e2.same e1.hp)) ry fun v F3 H3 e3 rv=>?_
    cases rv
    refine ⟨false,rfl,?_⟩
    rw [if_neg Bool.false_ne_true]
    exact k _ F3 H3 ((e1.trans e2).trans e3) .bl
  · cases hf
theorem pd_chLL {fa fb fc:DF→Option D} (ha:PDN X a fa) (hb:PDN X b fb) (hc:PDN X c fc) (hm:lastMarks [CmpOp.LtE,CmpOp.LtE] [b,c]=false:=by with_unfolding_all rfl):PDE X (.Compare a [.LtE,.LtE] [b,c] pos) (chD leA leA fa fb fc):=(pe_chain op_leA op_leA ha hb hc hm).imp (tChain_d on_leA on_leA)
theorem pd_chLl {fa fb fc:DF→Option D} (ha:PDN X a fa) (hb:PDN X b fb) (hc:PDN X c fc) (hm:lastMarks [CmpOp.LtE,CmpOp.Lt] [b,c]=false:=by with_unfolding_all rfl):PDE X (.Compare a [.LtE,.Lt] [b,c] pos) (chD leA ltI fa fb fc):=(pe_chain op_leA op_lt ha hb hc hm).imp (tChain_d on_leA (on_int0 fun _ _ _=>.bl))
theorem pt_chLL {fa fb fc:DF→Option D} (ha:PDN X a fa) (hb:PDN X b fb) (hc:PDN X c fc) (hm:lastMarks [CmpOp.LtE,CmpOp.LtE] [b,c]=false:=by with_unfolding_all rfl):PDT X (.Compare a [.LtE,.LtE] [b,c] pos) (asB (chD leA leA fa fb fc)):=(pt_chain op_leA op_leA ha hb hc hm).imp (tTest_of (tChain_d on_leA on_leA))
theorem pt_chLl {fa fb fc:DF→Option D} (ha:PDN X a fa) (hb:PDN X b fb) (hc:PDN X c fc) (hm:lastMarks [CmpOp.LtE,CmpOp.Lt] [b,c]=false:=by with_unfolding_all rfl):PDT X (.Compare a [.LtE,.Lt] [b,c] pos) (asB (chD leA ltI fa fb fc)):=(pt_chain op_leA op_lt ha hb hc hm).imp (tTest_of (tChain_d on_leA (on_int0 fun _ _ _=>.bl)))
noncomputable def OpN1 (K:PySem.W.Frag) (r:List V→Hp→VK→Prop) (f:D→Option D):Prop:=
  ∀ (P F H:Hp) (x:V) (dx d:D) (Q:VK),f dx=some d→DHp P F H→Rep K H x dx→(∀ v F' H',Evo P F H F' H'→Rep K F' v d→Q v H')→r [x] H Q
theorem tCB_n1 {K:PySem.W.Frag} {r:List V→Hp→VK→Prop} {f:D→Option D} {fa:DF→Option D} (ho:OpN1 K r f):∀ σ H Q,tD K (d1 f fa) σ H Q→tCB r (tCons (tN K fa) tNil) σ H Q:=fun σ H Q=>un7 fun P F ρ d hf I k=>by
  unfold d1 at hf
  cases ha:fa ρ with
  | none=>rw [ha] at hf; cases hf
  | some dx=>
    rw [ha,Option.bind_some] at hf
    exact ⟨P,F,ρ,dx,ha,I,fun x F1 H1 e1 rx=>ho P F1 H1 x dx d Q hf e1.hp rx fun v F2 H2 e2 rv=>k v F2 H2 (e1.trans e2) rv⟩
theorem on_len {K:PySem.W.Frag}:OpN1 K (rLenD K) lenD:=by
  intro P F H x dx d Q hf hp rx k
  unfold lenD at hf
  split at hf
  · cases hf
    cases rx with | lst h1 h2=>exact .inl ⟨_,_,rfl,.inl h1,by rw [h2.length]; exact k _ F H (Evo.refl hp) .int⟩
  · cases hf
    cases rx with | tup h1 h2=>exact .inl ⟨_,_,rfl,.inr (SqT.of h1),by rw [h2.length]; exact k _ F H (Evo.refl hp) .int⟩
  · split at hf
    · rename_i h
      cases hf
      exact .inr ⟨_,by rw [repN_str rx],by rw [sizeLine_eq]; exact h,k _ F H (Evo.refl hp) .int⟩
    · cases hf
  · cases hf
theorem pn_len {fa:DF→Option D} (hg:Gl X "len") (hm:X.mg "len"=none) (ha:PDN X e fa) (hs:starEach [e] X.env=[(false,eval e X.env)]:=by rfl) (hpl:(backTo pos (starEach [] X.env)).any (·.1)=false:=by rfl) :
    PDE X (.Call (.Name "len" p) [e] [] pos) (d1 lenD fa):=
  (pe_callB (call_len_seq.or call_len_str) hg hm PySem.boot_len (pa_cons ha pa_nil hs) (by decide) (by decide) hs hpl).imp (tCB_n1 on_len)
theorem boot_int:bootBuiltins "int"=some (.type "int"):=by rfl
theorem boot_list:bootBuiltins "list"=some (.type "list"):=by rfl
theorem boot_tuple:bootBuiltins "tuple"=some (.type "tuple"):=by rfl
theorem boot_bool:bootBuiltins "bool"=some (.type "bool"):=by rfl
theorem boot_str:bootBuiltins "str"=some (.type "str"):=by rfl
theorem boot_isinstance:bootBuiltins "isinstance"=some (.builtin "isinstance"):=by rfl
theorem boot_all:bootBuiltins "all"=some (.builtin "all"):=by rfl
theorem boot_min:bootBuiltins "min"=some (.builtin "min"):=by rfl
theorem boot_max:bootBuiltins "max"=some (.builtin "max"):=by rfl
theorem boot_sorted:bootBuiltins "sorted"=some (.builtin "sorted"):=by rfl
noncomputable def tupD:D→Option D
  | .lst ds=>some (.tup ds)
  | .tup ds=>some (.tup ds)
  | _=>none
theorem od_tup {K:PySem.W.Frag}:OpD1 K (fun xs H Q=>∃ p ys,xs=[.ref p]∧((SqL K H p ys∧∀ l,H l=none→Q (.ref l) (upd H l (.tup ys)))∨(SqT K H p ys∧Q (.ref p) H))) tupD:=by
  intro P F H ρ σ x dx d Q hf I rx k
  unfold tupD at hf
  split at hf
  · cases hf
    obtain ⟨p,vs,rfl,h1,h2⟩:=rep_lst I rx
    refine ⟨p,vs,rfl,.inl ⟨h1,fun l hl=>?_⟩⟩
    exact k _ _ _ (Evo.laid I.toDHp hl) (.tup upd_same (h2.same (same_upd (I.toDHp.free hl).1)))
  · cases hf
    rcases rx with rx | ⟨_,ob,_,_,_,_,_,hfl,z⟩
    · cases rx with | tup h1 h2=>exact ⟨_,_,rfl,.inr ⟨SqT.of (I.sub _ _ h1),k _ F H (Evo.refl I.toDHp) (.tup h1 h2)⟩⟩
    · cases ob <;> first | (cases z; done) | cases hfl
  · cases hf
theorem pd_tuple {fa:DF→Option D} (hg:Gl X "tuple") (hm:X.mg "tuple"=none) (ha:PDR X e fa) (hs:starEach [e] X.env=[(false,eval e X.env)]:=by rfl) :
    PDE X (.Call (.Name "tuple" p) [e] [] pos) (d1 tupD fa):=
  (pe_callTy call_tuple_of hg hm boot_tuple (pa_cons ha pa_nil hs) (he:=hs)).imp (tCB_d1 od_tup)
noncomputable def itemsL (f:DF→Option D):DF→Option (List D):=fun ρ=>(f ρ).bind itemsD
theorem pdo_list {fa:DF→Option D} (hg:Gl X "list") (hm:X.mg "list"=none) (ha:PDR X e fa) (hs:starEach [e] X.env=[(false,eval e X.env)]:=by rfl) :
    PDO X (.Call (.Name "list" p) [e] [] pos) (asL (itemsL fa)):=
  (pe_callTy call_list_of hg hm boot_list (pa_cons ha pa_nil hs) (he:=hs)).imp fun σ H Q=>un7 fun P F ρ ob hf I k=>by
    unfold asL itemsL at hf
    cases ha:fa ρ with
    | none=>rw [ha] at hf; cases hf
    | some dx=>
      rw [ha,Option.bind_some] at hf
      cases hi:itemsD dx with
      | none=>rw [hi] at hf; cases hf
      | some ds=>
        rw [hi] at hf
        cases hf
        refine ⟨P,F,ρ,dx,ha,I,fun x F1 H1 e1 rx=>?_⟩
        have I1:=I.evo e1
        have fin:∀ vs,Reps X.K F1 vs ds→∀ l,H1 l=none→Q (.ref l) (upd H1 l (.lst vs)):=fun vs r l hl=>
          k l F1 _ (e1.trans (Evo.side e1.hp hl)) ⟨⟨e1.back I.toDHp hl,(e1.hp.free hl).1⟩,_,upd_same,r⟩
        cases dx with
        | lst ds'=>
          cases hi
          obtain ⟨q,vs,rfl,h1,h2⟩:=rep_lst I1 rx
          exact ⟨q,vs,rfl,.inl h1,fin vs h2⟩
        | tup ds'=>
          cases hi
          obtain ⟨q,vs,rfl,h1,h2⟩:=rep_tup I1 rx
          exact ⟨q,vs,rfl,.inr h1,fin vs h2⟩
        | _=>cases hi
noncomputable def rCatL (K:PySem.W.Frag):R2:=fun x y H Q=>∃ l b xs zs,x=.ref l∧y=.ref b∧SqL K H l xs∧SqL K H b zs∧xs.length + zs.length≤sizeLine∧∀ p,H p=none→Q (.ref p) (upd H p (.lst (xs++zs)))
theorem op_catL:OpR X (binaryOp .Add) (rCatL X.K):=by
  intro pins s σ H x y v u Q I rx ry h
  obtain ⟨l,b,xs,zs,rfl,rfl,hH,hB,hz,q⟩:=h
  cases rx
  cases ry
  obtain ⟨its,r,p1,_⟩:=I.list hH
  obtain ⟨its2,r2,p2,_⟩:=I.list hB
  obtain ⟨⟨cls,dd,data,sl⟩,n,ho,hc,hdd,hd⟩:=p1
  obtain ⟨⟨cls2,dd2,data2,sl2⟩,n2,ho2,hc2,hdd2,hd2⟩:=p2
  simp only at hc hd hc2 hd2
  subst hc hd hc2 hd2
  have e1:=r.length
  have e2:=r2.length
  refine concat_meets ⟨_,ho,rfl⟩ ⟨_,ho2,rfl⟩ PySem.noFill_list_add PySem.seq_list_add PySem.F.slot_list_add PySem.F.entry_list_add (PySem.F.args_list_add_2 _ _) (list_addW l b its.toArray its2.toArray n n2 dd dd2 sl sl2 (by rw [List.size_toArray,List.size_toArray]; omega)) ⟨ho,ho2,?_⟩
  have ea:its.toArray++its2.toArray=(its++its2).toArray:=by simp
  rw [ea]
  exact ⟨.ref _,_,I.lnew (t':=s.toks) (r.append r2) (by rw [List.length_append]; omega),rfl,q _ I.fresh⟩
end
noncomputable def spM (K:PySem.W.Frag) (f:OD→List DV→Option (OD×D)):Sp:=fun vs H Q _=>∃ P F a vs' o xs o' d,vs=.ref a::vs'∧f o xs=some (o',d)∧DHp P F H∧F a=none∧P a=none∧o.flat=true∧(∃ u,H a=some u∧ORep1 K F o u)∧DVs K P F H xs vs' ∧
  ∀ v F' H',Same F F'→DHp P F' H'→F' a=none→(∃ u',H' a=some u'∧ORep1 K F' o' u')→o'.flat=true→Rep K F' v d→Q v H'
noncomputable def endsM (a:Addr) (o':OD) (d:D):RES→Prop
  | .nx ρ=>ρ[0]?=some (some (.own o' (some a)))∧d=.non
  | .rt x ρ=>x=.v d∧ρ[0]?=some (some (.own o' (some a)))
  | _=>False
theorem DInv.startM {K:PySem.W.Frag} {P F H:Hp} {xs:List DV} {vs:List V} {a:Addr} {o:OD} (N:List Str) (p:Nat) (h:DHp P F H) (hf:F a=none) (hp:P a=none) (fl:o.flat=true) (ho:∃ u,H a=some u∧ORep1 K F o u) (r:DVs K P F H xs vs) (hl:xs.length + 1=p) :
    DInv K P F H (startD N.length p (.own o (some a)::xs)) (L2.start N (.ref a::vs)):=by
  refine ⟨h,?_,fun b=>if b=a then some 0 else none,fun i x e=>?_⟩
  · unfold startD L2.start
    rw [List.length_append,List.length_append,List.length_map,List.length_map,List.length_replicate,List.length_replicate,List.length_cons,List.length_cons,← r.length,hl]
  · have e':=startD_get e
    cases i with
    | zero=>
      cases e'
      refine ⟨.ref a,start_get (i:=0) rfl,a,rfl,(ORep.flat fl).mpr ⟨⟨hf,hp,if_pos rfl⟩,ho⟩,fun b z=>by cases z; rfl⟩
    | succ i=>
      obtain ⟨hno,v,h1,h2⟩:=r.get (i:=i) (x:=x) e'
      refine ⟨v,start_get (i:=i + 1) (by simpa using h1),?_⟩
      cases x with
      | own o t=>cases hno
      | v d=>exact h2
      | bor o=>exact h2
theorem Fun.okM {P:Program} {w:World} {K:PySem.W.Frag} {mg:Str→Option Value} {base:Heap} {x qual:Str} {st:Stmt} {f:Addr} {fd:FuncData} {N ps:List Str} {k:Nat} {g:DF→Option RES} {m:OD→List DV→Option (OD×D)} (F:Fun K x qual st f fd) (S:FnScope N ps (defScope st))
    (hm:∀ a o xs o' d,m o xs=some (o',d)→xs.length + 1=ps.length∧o'.flat=true∧∃ r,g (startD N.length ps.length (.own o (some a)::xs))=some r∧endsM a o' d r)
    (hbody:∀ (cdv:Value) (A:Around) (outer:List Env) (s:Shared) (H:Hp) (E:XK),Room k (A.deeper (envOfC qual (defScope st) s.heap.objs.size f cdv))→
      PDS (cxOf CX0 P w K mg base N qual (defScope st) f cdv A outer s H E).nox (defBody st) g):FnOk P w K mg base CX0 (k + 1) f fd ps (spM K m):=by
  refine F.ok S (fun vs H Q E hh_=>?_) fun cdv A outer s H vs Q E hr h=>?_
  · obtain ⟨P',F',a,vs',o,xs,o',d,e,h1,_,_,_,_,_,hv,_⟩:=hh_
    rw [e,List.length_cons,← hv.length]; exact (hm 0 o xs o' d h1).1
  · refine ⟨_,hbody cdv A outer s H E hr,?_⟩
    obtain ⟨P',F',a,vs',o,xs,o',d,rfl,h1,hp,hf,hP,fl,ho,hv,hQ⟩:=h
    obtain ⟨hl,fl',r,hg,he⟩:=hm a o xs o' d h1
    have I:=DInv.startM N ps.length hp hf hP fl ho hv hl
    refine ⟨P',F',_,r,hg,I,?_⟩
    have fin:∀ (ρ:DF) (σ:St) (F2 H2:Hp) (v:V),ρ[0]?=some (some (.own o' (some a)))→Same F' F2→DInv K P' F2 H2 ρ σ→Rep K F2 v d→Q v H2:=fun ρ σ F2 H2 v h0 e I2 rv=>by
      obtain ⟨v',_,a',rfl,h3,h4⟩:=I2.at h0
      have ea:=h4 a rfl
      subst ea
      obtain ⟨⟨q1,q2,_⟩,u,q3,q4⟩:=(ORep.flat fl').mp h3
      exact hQ v F2 H2 e I2.toDHp q1 ⟨u,q3,q4⟩ fl' rv
    cases r with
    | nx ρ=>(obtain ⟨h0,rfl⟩:=he; exact fun σ F2 H2 e I2=>fin ρ σ F2 H2 .non h0 e I2 .non)
    | rt x ρ=>(obtain ⟨rfl,h0⟩:=he; exact fun v σ F2 H2 e I2 rv=>fin ρ σ F2 H2 v h0 e I2 rv)
    | bk ρ=>exact he.elim
    | ct ρ=>exact he.elim
noncomputable def gdx (F H:Hp) (a:Addr):Hp:=fun b=>if b=a then none else gd F H b
theorem gdx_eq {F H:Hp} {a b:Addr} {o:HO}:gdx F H a b=some o↔b≠a∧F b=none∧H b=some o:=by
  unfold gdx
  by_cases h:b=a
  · rw [if_pos h]; simp [h]
  · rw [if_neg h,gd_eq]; simp [h]
theorem gdx_hp {F H:Hp} (s:Same F H) (a:Addr):DHp (gdx F H a) F H:=⟨s,fun b o e=>(gdx_eq.mp e).2.2,fun b o e=>(gdx_eq.mp e).2.1⟩
theorem ArgsS.dvx {K:PySem.W.Frag} {P F H:Hp} {ρ:DF} {σ:St} (I:DInv K P F H ρ σ) {i:Nat} {o:OD} {t:Option Addr} {a:Addr} (hi:ρ[i]?=some (some (.own o t))) (hs:σ[i]?=some (some (.ref a))) (fl:o.flat=true):∀ {xs:List DV} {vs:List V},ArgsS K ρ σ F xs vs→(∀ x∈xs,∃ d,x=.v d)→DVs K (gdx F H a) F H xs vs:=by
  intro xs vs h
  induction h with
  | nil=>exact fun _=>.nil
  | v h _ ih=>exact fun hx=>.cons rfl h (ih fun x m=>hx x (List.mem_cons_of_mem _ m))
  | b j h1 h2 _ ih=>
    intro hx
    obtain ⟨d,e⟩:=hx _ List.mem_cons_self
    cases e
noncomputable def allV (xs:List DV):Bool:=xs.all fun x=>match x with
  | .v _=>true
  | _=>false
theorem allV_v {xs:List DV} (h:allV xs=true):∀ x∈xs,∃ d,x=.v d:=fun x m=>by
  have:=List.all_eq_true.mp h x m
  cases x with
  | v d=>exact ⟨d,rfl⟩
  | _=>cases this
noncomputable def tMcall (K:PySem.W.Frag) (i:Nat) (m:OD→List DV→Option (OD×D)) (g:DF→Option (List DV)):DF→Option (DF×D):=fun ρ=>match ρ[i]? with
  | some (some (.own o t))=>if o.flat=true then (g ρ).bind fun xs=>if allV xs=true then (m o xs).map fun r=>(ρ.set i (some (.own r.1 t)),r.2) else none else none
  | _=>none
noncomputable def dMcall (K:PySem.W.Frag) (i:Nat) (m:OD→List DV→Option (OD×D)) (g:DF→Option (List DV)):DF→Option RES:=fun ρ=>(tMcall K i m g ρ).map fun r=>.nx r.1
theorem mcall_back {K:PySem.W.Frag} {P F1 H1 F2 H2:Hp} {ρ:DF} {σ:St} {i:Nat} {o o':OD} {t:Option Addr} {a:Addr} (I:DInv K P F1 H1 ρ σ) (hi:ρ[i]?=some (some (.own o t))) (hs:σ[i]?=some (some (.ref a))) (fl:o.flat=true) (fl':o'.flat=true)
    (e2:Same F1 F2) (hp2:DHp (gdx F1 H1 a) F2 H2) (f2:F2 a=none) (ho:∃ u',H2 a=some u'∧ORep1 K F2 o' u'):DInv K P F2 H2 (ρ.set i (some (.own o' t))) σ:=by
  obtain ⟨O,hR⟩:=I.rep
  obtain ⟨v,h1,b,rfl,h2,ht⟩:=hR i _ hi
  rw [hs] at h1; cases h1
  obtain ⟨⟨q1,q2,q3⟩,u,q4,_⟩:=(ORep.flat fl).mp h2
  have keep:∀ b u,b≠a→F1 b=none→H1 b=some u→H2 b=some u∧F2 b=none:=fun b u hb n q=>⟨hp2.pro b u (gdx_eq.mpr ⟨hb,n,q⟩),hp2.dis b u (gdx_eq.mpr ⟨hb,n,q⟩)⟩
  refine ⟨⟨hp2.sub,fun b u q=>(keep b u (fun z=>by subst z; rw [q2] at q; cases q) (I.dis b u q) (I.pro b u q)).1,fun b u q=>(keep b u (fun z=>by subst z; rw [q2] at q; cases q) (I.dis b u q) (I.pro b u q)).2⟩,by rw [List.length_set]; exact I.len,O,fun j z hj=>?_⟩
  rcases set_get hj with ⟨rfl,e,hl⟩ | ⟨hij,hj'⟩
  · cases e
    exact ⟨_,hs,a,rfl,(ORep.flat fl').mpr ⟨⟨f2,q2,q3⟩,ho⟩,ht⟩
  · obtain ⟨w,e1,e3⟩:=hR j z hj'
    refine ⟨w,e1,?_⟩
    cases z with
    | v d'=>exact Rep.same e2 e3
    | own od t'=>
      obtain ⟨c,rfl,e4,ht'⟩:=e3
      refine ⟨c,rfl,e4.mono e2 fun b w' q hb=>?_,ht'⟩
      obtain ⟨k1,k2⟩:=keep b w' (fun z=>by subst z; rw [q.2.2] at q3; exact hij (Option.some.inj q3).symm) q.1 hb
      exact ⟨k1,k2,q.2⟩
    | bor od=>(obtain ⟨c,rfl,e4⟩:=e3; exact ⟨c,rfl,e4.mono e2 fun b u q hb=>⟨hb,q⟩⟩)
section
variable {X:Cx} {k:Nat} {f C:Addr} {fd:FuncData} {ps:List Str} {m:List DV→Option DV} {mM:OD→List DV→Option (OD×D)} {x mn:Str} {p pos apos spos:Pos} {e o:Expr} {es:List Expr} {g:DF→Option (List DV)}
theorem pd_mcall (i:Nat) (G:FnOk X.prog X.w X.K X.mg X.base CX0 k f fd ps (spM X.K mM)) (hr:Room k X.A) (hg:Gl X x) (hm:X.mg x=some (.ref f)) (hk:PySem.W.keepIn X.K (.ref f)=true) (hb:Binds X.K fd ps []) (h0:PE X e (tVar i)) (ha:PDAV X es g)
    (hd:(x == ("__debug__":Str))=false:=by decide) (he:starEach (e::es) X.env=(false,eval e X.env)::starEach es X.env:=by rfl) (hpl:(backTo pos (starEach es X.env)).any (·.1)=false:=by rfl) (hsw:swapsWith (.Call (.Name x p) (e::es) [] pos) none spos.line X.env=pure false:=by rfl) :
    PD1 X (.Expr (.Call (.Name x p) (e::es) [] pos) spos) (dMcall X.K i mM g):=
  PS.imp (ps_expr (pe_call G hr hg hm hk hb .nil pass0 (pa_cons h0 ha he) hd he hpl) hsw) fun E σ H=>un7 fun P F ρ r hr I k=>by
    unfold dMcall tMcall at hr
    split at hr
    · rename_i od t q
      split at hr
      · rename_i fl
        cases q2:g ρ with
        | none=>rw [q2] at hr; cases hr
        | some xs=>
          rw [q2,Option.bind_some] at hr
          split at hr
          · rename_i av
            cases q3:mM od xs with
            | none=>rw [q3] at hr; cases hr
            | some res=>
              rw [q3] at hr
              cases hr
              obtain ⟨v,h1,a,rfl,h2,h3⟩:=I.at q
              obtain ⟨⟨a1,a2,_⟩,u,a3,a4⟩:=(ORep.flat fl).mp h2
              refine ⟨_,h1,P,F,ρ,xs,q2,I,fun vs F1 H1 e1 r1=>?_⟩
              have I1:=I.evo e1
              obtain ⟨k1,k2⟩:=e1.keep a u a3 a1
              refine ⟨gdx F1 H1 a,F1,a,vs,od,xs,res.1,res.2,by simp,q3,gdx_hp I1.sub a,k2,by unfold gdx; rw [if_pos rfl],fl,⟨u,k1,a4.same e1.ext⟩,r1.dvx I1 q h1 fl (allV_v av),fun v F2 H2 e2 hp2 f2 ho fl' rv=>?_⟩
              exact k σ F2 H2 (e1.ext.trans e2) (mcall_back I1 q h1 fl fl' e2 hp2 f2 ho)
          · cases hr
      · cases hr
    · cases hr
theorem RepsF.look {K:PySem.W.Frag} {H:Hp} {n:Str} {vs:List (Str×V)} {ds:List (Str×D)} {d:D} (h:RepsF K H vs ds):ds.lookup n=some d→∃ v,vs.lookup n=some v∧Rep K H v d:=
  RepsF.ind (M:=fun vs ds=>ds.lookup n=some d→∃ v,vs.lookup n=some v∧Rep K H v d) (fun e=>by cases e) (fun h _ ih e=>by
    rw [look_cons] at e ⊢
    split at e
    · rename_i q; cases e; rw [if_pos q]; exact ⟨_,rfl,h⟩
    · rename_i q; rw [if_neg q]; exact ih e) h
theorem RepsF.no {K:PySem.W.Frag} {H:Hp} {n:Str} {vs:List (Str×V)} {ds:List (Str×D)} (h:RepsF K H vs ds):ds.lookup n=none→vs.lookup n=none:=
  RepsF.ind (M:=fun vs ds=>ds.lookup n=none→vs.lookup n=none) (fun _=>rfl) (fun _ _ ih e=>by
    rw [look_cons] at e ⊢
    split at e
    · cases e
    · rename_i q; rw [if_neg q]; exact ih e) h
noncomputable def fldC (C:Addr) (n:Str):D→Option D
  | .ins C' fs=>if C'=C then fs.lookup n else none
  | _=>none
theorem pd_fld {fa:DF→Option D} {n:Str} (c:Cls X.K C) (hn:NoAttr X.K C n) (h:PDR X e fa) (hb:attributeBase e n X.env (eval e X.env)=eval e X.env:=by rfl):PDE X (.Attribute e n pos) (d1 (fldC C n) fa):=
  (pe_fld h hb).imp fun σ H Q=>un7 fun P F ρ d hf I k=>by
    unfold d1 at hf
    cases q:fa ρ with
    | none=>rw [q] at hf; cases hf
    | some dx=>
      rw [q,Option.bind_some] at hf
      refine ⟨P,F,ρ,dx,q,I,fun y F1 H1 e1 rx=>?_⟩
      cases dx with
      | ins C' fs=>
        have hf':(if C'=C then fs.lookup n else none)=some d:=hf
        split at hf'
        · rename_i hC
          subst hC
          obtain ⟨a,dx,vs,rfl,h1,h2⟩:=rep_ins (I.evo e1) rx
          obtain ⟨v,h3,h4⟩:=h2.look hf'
          exact ⟨a,C',dx,vs,v,rfl,h1,c,hn,h3,k v F1 H1 e1 h4⟩
        · cases hf'
      | _=>cases hf
noncomputable def putFD (f:Str) (v:D):List (Str×D)→List (Str×D)
  | []=>[(f,v)]
  | (g,x)::r=>if g=f then (g,v)::r else (g,x)::putFD f v r
theorem RepsF.put {K:PySem.W.Frag} {H:Hp} {n:Str} {v:V} {d:D} (rv:Rep K H v d) {vs:List (Str×V)} {ds:List (Str×D)} (h:RepsF K H vs ds):RepsF K H (putF n v vs) (putFD n d ds):=
  RepsF.ind (M:=fun vs ds=>RepsF K H (putF n v vs) (putFD n d ds)) (.cons rv .nil) (fun {k _ _ _ _} h r ih=>by
    unfold putF putFD
    by_cases q:k=n
    · rw [if_pos q,if_pos q]; exact .cons rv r
    · rw [if_neg q,if_neg q]; exact .cons h ih) h
theorem RepsF.length {K:PySem.W.Frag} {H:Hp} {vs:List (Str×V)} {ds:List (Str×D)} (h:RepsF K H vs ds):vs.length=ds.length:=RepsF.ind (M:=fun vs ds=>vs.length=ds.length) rfl (fun _ _ ih=>congrArg Nat.succ ih) h
noncomputable def dSetF (C:Addr) (i:Nat) (n:Str) (fv:DF→Option D):DF→Option RES:=fun ρ=>match ρ[i]? with
  | some (some (.own (.ins C' fs) t))=>if C'=C then (fv ρ).bind fun d=>if fs.length < 1000 then some (.nx (ρ.set i (some (.own (.ins C (putFD n d fs)) t)))) else none else none
  | _=>none
theorem pd_setF {value:Expr} {n:Str} {fv:DF→Option D} {pos':Pos} (i:Nat) (c:Cls X.K C) (hn:NoAttr X.K C n) (ho:PE X o (tVar i)) (hv:PDE X value fv) (hs:swapsWith value (some (.Attribute o n pos')) pos.line X.env=pure false:=by rfl) :
    PD1 X (.Assign [.Attribute o n pos'] value pos) (dSetF C i n fv):=PS.imp (ps_fld ho hv hs) fun E σ H=>un7 fun P F ρ r hr I k=>by
  unfold dSetF at hr
  split at hr
  · rename_i C' fs t q
    split at hr
    · rename_i hC
      subst hC
      cases q2:fv ρ with
      | none=>rw [q2] at hr; cases hr
      | some d=>
        rw [q2,Option.bind_some] at hr
        split at hr
        · rename_i hl
          cases hr
          obtain ⟨v,h1,a,rfl,⟨⟨a1,a2,_⟩,u,a3,a4⟩,_⟩:=I.at q
          cases u with
          | ins C'' dx vs=>
            obtain ⟨rfl,a4⟩:=a4
            refine ⟨P,F,ρ,d,q2,I,fun y F1 H1 e1 ry=>⟨_,h1,a,C',dx,vs,rfl,(e1.keep a _ a3 a1).1,c,hn,by rw [a4.length]; exact hl,k σ F1 _ e1.ext ?_⟩⟩
            exact (I.evo e1).mut (o':=.ins C' _) (u:=.ins C' dx _) q rfl rfl h1 ⟨rfl,(RepsF.same e1.ext a4).put ry⟩
          | _=>exact a4.elim
        · cases hr
    · cases hr
  · cases hr
noncomputable def insOf (C:Addr):DV→Option (List (Str×D))
  | .v (.ins C' fs)=>if C'=C then some fs else none
  | .bor (.ins C' fs)=>if C'=C then some fs else none
  | _=>none
noncomputable def selfC (C:Addr) (mn:Str):List DV→Bool
  | x::_=>match insOf C x with
    | some fs=>(fs.lookup mn).isNone
    | none=>false
  | []=>false
noncomputable def callMV (C:Addr) (mn:Str) (m:List DV→Option DV) (g:DF→Option (List DV)):DF→Option D:=fun ρ=>(g ρ).bind fun xs=>if selfC C mn xs=true then (m xs).bind dvD else none
end
theorem DVs.heap {K:PySem.W.Frag} {P F H H':Hp} {xs:List DV} {vs:List V} (h:DVs K P F H xs vs):DVs K P F H' xs vs:=by
  induction h with
  | nil=>exact .nil
  | @cons x _ _ _ h r _ ih=>
    refine .cons h ?_ ih
    cases x with
    | v d=>exact r
    | bor o=>exact r
    | own o t=>cases h
noncomputable def selfB (i:Nat):DF→Option DV:=fun ρ=>match ρ[i]? with
  | some (some (.own o _))=>some (.bor o)
  | some (some (.bor o))=>some (.bor o)
  | some (some (.v d))=>some (.v d)
  | _=>none
noncomputable def mArgs (s:DF→Option DV) (g:DF→Option (List DV)):DF→Option (List DV):=fun ρ=>(s ρ).bind fun x=>(g ρ).map fun xs=>x::xs
noncomputable def g0:DF→Option (List DV):=fun _=>some []
noncomputable def Self1 (K:PySem.W.Frag) (ρ:DF) (σ:St) (F:Hp) (x:DV) (v:V):Prop:=ArgsS K ρ σ F [x] [v]
theorem Self1.cons {K:PySem.W.Frag} {ρ:DF} {σ:St} {F F':Hp} {x:DV} {v:V} {xs:List DV} {vs:List V} (h:Self1 K ρ σ F x v) (e:Same F F') (r:ArgsS K ρ σ F' xs vs):ArgsS K ρ σ F' (x::xs) (v::vs):=by
  cases h with
  | v h _=>exact .v (h.same e) r
  | b i h1 h2 _=>exact .b i h1 h2 r
theorem Self1.ins {K:PySem.W.Frag} {P F H:Hp} {ρ:DF} {σ:St} {x:DV} {v:V} {C:Addr} {fs:List (Str×D)} (I:DInv K P F H ρ σ) (h:Self1 K ρ σ F x v) (hi:insOf C x=some fs):∃ a dx vs,v=.ref a∧H a=some (.ins C dx vs)∧RepsF K F vs fs:=by
  cases h with
  | @v d _ _ _ h _=>
    cases d with
    | ins C' fs'=>
      have hi':(if C'=C then some fs' else none)=some fs:=hi
      split at hi'
      · rename_i hC
        subst hC
        cases hi'
        exact rep_ins I (.inl h)
      · cases hi'
    | _=>cases hi
  | @b o _ _ _ i h1 h2 _=>
    cases o with
    | ins C' fs'=>
      have hi':(if C'=C then some fs' else none)=some fs:=hi
      split at hi'
      · rename_i hC
        subst hC
        cases hi'
        exact rep_ins I (RepS.slot I h1 h2 rfl)
      · cases hi'
    | _=>cases hi
noncomputable def tSelf (K:PySem.W.Frag) (s:DF→Option DV):TE:=fun σ H Q=>∃ P F ρ x,s ρ=some x∧DInv K P F H ρ σ∧∀ v F' H',Evo P F H F' H'→Self1 K ρ σ F' x v→Q v H'
noncomputable def PDSelf (X:Cx) (e:Expr) (s:DF→Option DV):Prop:=PE X e (tSelf X.K s)
section
variable {X:Cx} {k:Nat} {f C:Addr} {fd:FuncData} {ps:List Str} {m:List DV→Option DV} {mM:OD→List DV→Option (OD×D)} {x mn:Str} {p pos apos spos:Pos} {e o:Expr} {es:List Expr} {g:DF→Option (List DV)} {s:DF→Option DV}
theorem pself_b (i:Nat) (h:PE X e (tVar i)):PDSelf X e (selfB i):=PE.imp h fun σ H Q=>un7 fun P F ρ x hf I k=>by
  unfold selfB at hf
  split at hf
  · rename_i o t q
    cases hf
    obtain ⟨v,h1,_⟩:=I.at q
    exact ⟨v,h1,k v F H (Evo.refl I.toDHp) (.b i h1 (.inl ⟨t,q⟩) .nil)⟩
  · rename_i o q
    cases hf
    obtain ⟨v,h1,_⟩:=I.at q
    exact ⟨v,h1,k v F H (Evo.refl I.toDHp) (.b i h1 (.inr q) .nil)⟩
  · rename_i d q
    cases hf
    obtain ⟨v,h1,h2⟩:=I.at q
    exact ⟨v,h1,k v F H (Evo.refl I.toDHp) (.v h2 .nil)⟩
  · cases hf
theorem selfC_some {C:Addr} {mn:Str} {x:DV} {xs:List DV} (h:selfC C mn (x::xs)=true):∃ fs,insOf C x=some fs∧fs.lookup mn=none:=by
  unfold selfC at h
  cases q:insOf C x with
  | none=>simp [q] at h
  | some fs=>exact ⟨fs,rfl,by simpa [q] using h⟩
theorem tMeth_of {K:PySem.W.Frag} {E:XK} {σ:St} {H:Hp} {Q:VK} {P F:Hp} {ρ:DF} {xs:List DV} {y:DV} (hg:mArgs s g ρ=some xs) (hs:selfC C mn xs=true) (hm:m xs=some y) (I:DInv K P F H ρ σ)
    (k:∀ v F1 H1 F2 H2,Evo P F H F1 H1→Same F1 F2→DHp (gd F1 H1) F2 H2→DVRep K (gd F1 H1) F2 H2 anyA y v→Q v H2):tMeth C mn (spD K m) [] E (tSelf K s) (tLV K g) σ H Q:=by
  unfold mArgs at hg
  cases q:s ρ with
  | none=>rw [q] at hg; cases hg
  | some x=>
    rw [q,Option.bind_some] at hg
    cases q2:g ρ with
    | none=>rw [q2] at hg; cases hg
    | some ys=>
      rw [q2] at hg
      cases hg
      obtain ⟨fs,hi,hl⟩:=selfC_some hs
      refine ⟨P,F,ρ,x,q,I,fun v F1 H1 e1 r1=>?_⟩
      have I1:=I.evo e1
      obtain ⟨a,dx,vs,rfl,h1,h2⟩:=r1.ins I1 hi
      refine ⟨a,dx,vs,rfl,h1,h2.no hl,P,F1,ρ,ys,q2,I1,fun ws F2 H2 e2 r2=>?_⟩
      have I2:=I1.evo e2
      refine ⟨gd F2 H2,F2,x::ys,y,hm,gd_hp I2.sub,by rw [List.append_nil]; exact (r1.cons e2.ext r2).dvs I2,fun w F3 H3 e3 hp3 r3=>k w F2 H2 F3 H3 (e1.trans e2) e3 hp3 r3⟩
theorem tMeth_v {K:PySem.W.Frag} {E:XK}:∀ σ H Q,tD K (callMV C mn m (mArgs s g)) σ H Q→tMeth C mn (spD K m) [] E (tSelf K s) (tLV K g) σ H Q:=fun σ H Q=>un7 fun P F ρ d hf I k=>by
  unfold callMV at hf
  cases q:mArgs s g ρ with
  | none=>rw [q] at hf; cases hf
  | some xs=>
    rw [q,Option.bind_some] at hf
    split at hf
    · rename_i hs
      cases q2:m xs with
      | none=>rw [q2] at hf; cases hf
      | some y=>
        rw [q2,Option.bind_some] at hf
        refine tMeth_of q hs q2 I fun v F1 H1 F2 H2 e1 e2 hp2 r2=>?_
        have I1:=I.evo e1
        have ev:Evo P F1 H1 F2 H2:=I1.toDHp.gd e2 hp2
        cases y with
        | v d'=>cases hf; exact k v F2 H2 (e1.trans ev) r2
        | own o t=>
          cases hf
          obtain ⟨a,rfl,ho,_⟩:=r2
          have ho':=ret_own e2 ho
          exact k _ _ H2 (e1.trans (ev.freeze I1.toDHp (fun b=>H1 b=none∧F2 b=none) fun _ q=>q)) (ho'.rep (frzH_same fun b q=>q.2) fun b u q hb=>by rw [frzH_yes q]; exact hb)
        | bor o=>cases hf
    · cases hf
theorem pd_meth0 {pl:Sem Bool} (he:PDSelf X o s) (c:Cls X.K C) (hm:Meth X.K C mn f) (G:FnOk X.prog X.w X.K X.mg X.base CX0 k f fd ps (spD X.K m)) (hr:Room k X.A) (hb:Binds X.K fd ps [])
    (ht:eval (.Call (.Attribute o mn apos) [] [] pos) X.env=(do
      let ov ← eval o X.env
      standAt apos.atName
      let (f,first) ← holding [ov] (getMethod ov mn pl)
      callWith pos f first (backTo pos (starEach [] X.env)) (backToKw pos (keywordEach [] X.env))):=by rfl):PDE X (.Call (.Attribute o mn apos) [] [] pos) (callMV C mn m (mArgs s g0)):=
  (pe_meth0 he c hm G hr hb .nil pass0 ht).imp fun σ H Q h=>by
    have:=tMeth_v (K:=X.K) (E:=E0) σ H Q h
    obtain ⟨P,F,ρ,x,h1,h2,h3⟩:=this
    refine ⟨P,F,ρ,x,h1,h2,fun v F' H' ev r=>?_⟩
    obtain ⟨a,dx,fs,ex,ea,l,P2,F2,ρ2,xs,hx,I2,h4⟩:=h3 v F' H' ev r
    cases hx
    exact ⟨a,dx,fs,ex,ea,l,h4 [] F2 H' (Evo.refl I2.toDHp) .nil⟩
end
section
variable {κ:Type} [DecidableEq κ]
noncomputable def valD (kvs:List (κ×D)) (k:κ):Option D:=(kvs.find? fun kv=>decide (kv.1=k)).map (·.2)
noncomputable def putD (kvs:List (κ×D)) (k:κ) (v:D):List (κ×D):=
  if (kvs.any fun kv=>decide (kv.1=k))=true then kvs.map (fun kv=>if kv.1=k then (kv.1,v) else kv) else kvs++[(k,v)]
end
theorem valV_cons {k k':List Key} {v:V} {vs:List (List Key×V)}:valV ((k',v)::vs) k=if k'=k then some v else valV vs k:=by
  unfold valV
  by_cases q:k'=k <;> simp [List.find?_cons,q]
theorem valD_cons {κ:Type} [DecidableEq κ] {k k':κ} {v:D} {vs:List (κ×D)}:valD ((k',v)::vs) k=if k'=k then some v else valD vs k:=by
  unfold valD
  by_cases q:k'=k <;> simp [List.find?_cons,q]
theorem RepsT.val {K:PySem.W.Frag} {H:Hp} {k:List Key} {vs:List (List Key×V)} {ds:List (List Key×D)} (h:RepsT K H vs ds):(valV vs k=none∧valD ds k=none)∨∃ v d,valV vs k=some v∧valD ds k=some d∧Rep K H v d:=
  RepsT.ind (M:=fun vs ds=>(valV vs k=none∧valD ds k=none)∨∃ v d,valV vs k=some v∧valD ds k=some d∧Rep K H v d) (.inl ⟨rfl,rfl⟩) (fun {k' v d vs ds} h _ ih=>by
    rw [valV_cons,valD_cons]
    by_cases q:k'=k
    · rw [if_pos q,if_pos q]
      exact .inr ⟨v,d,rfl,rfl,h⟩
    · rw [if_neg q,if_neg q]
      exact ih) h
theorem RepsT.any {K:PySem.W.Frag} {H:Hp} {k:List Key} {vs:List (List Key×V)} {ds:List (List Key×D)} (h:RepsT K H vs ds):(vs.any fun kv=>decide (kv.1=k))=ds.any fun kv=>decide (kv.1=k):=
  RepsT.ind (M:=fun vs ds=>(vs.any fun kv=>decide (kv.1=k))=ds.any fun kv=>decide (kv.1=k)) rfl (fun _ _ ih=>by rw [List.any_cons,List.any_cons,ih]) h
theorem RepsT.map {K:PySem.W.Frag} {H:Hp} {k:List Key} {v:V} {d:D} (rv:Rep K H v d) {vs:List (List Key×V)} {ds:List (List Key×D)} (h:RepsT K H vs ds):RepsT K H (vs.map fun kv=>if kv.1=k then (kv.1,v) else kv) (ds.map fun kv=>if kv.1=k then (kv.1,d) else kv):=
  RepsT.ind (M:=fun vs ds=>RepsT K H (vs.map fun kv=>if kv.1=k then (kv.1,v) else kv) (ds.map fun kv=>if kv.1=k then (kv.1,d) else kv)) .nil (fun {k' v' d' vs ds} h _ ih=>by
    rw [List.map_cons,List.map_cons]
    by_cases q:k'=k
    · rw [if_pos (show (k',v').1=k from q),if_pos (show (k',d').1=k from q)]; exact .cons rv ih
    · rw [if_neg (show ¬ (k',v').1=k from q),if_neg (show ¬ (k',d').1=k from q)]; exact .cons h ih) h
theorem RepsT.snoc {K:PySem.W.Frag} {H:Hp} {k:List Key} {v:V} {d:D} (rv:Rep K H v d) {vs:List (List Key×V)} {ds:List (List Key×D)} (h:RepsT K H vs ds):RepsT K H (vs++[(k,v)]) (ds++[(k,d)]):=
  RepsT.ind (M:=fun vs ds=>RepsT K H (vs++[(k,v)]) (ds++[(k,d)])) (.cons rv .nil) (fun h _ ih=>.cons h ih) h
theorem RepsT.put {K:PySem.W.Frag} {H:Hp} {k:List Key} {v:V} {d:D} {vs:List (List Key×V)} {ds:List (List Key×D)} (rv:Rep K H v d) (r:RepsT K H vs ds):RepsT K H (putK vs k v) (putD ds k d):=by
  unfold putK putD
  rw [r.any (k:=k)]
  split
  · exact r.map rv
  · exact r.snoc rv
theorem RepsT.length {K:PySem.W.Frag} {H:Hp} {vs:List (List Key×V)} {ds:List (List Key×D)} (h:RepsT K H vs ds):vs.length=ds.length:=RepsT.ind (M:=fun vs ds=>vs.length=ds.length) rfl (fun _ _ ih=>congrArg Nat.succ ih) h
noncomputable def dKey:D→Option Key
  | .int i=>some (.inl i)
  | .str x=>some (.inr x)
  | _=>none
noncomputable def keysOf:List D→Option (List Key)
  | []=>some []
  | d::ds=>(dKey d).bind fun k=>(keysOf ds).map fun r=>k::r
noncomputable def keyT:D→Option (List Key)
  | .tup ds=>keysOf ds
  | _=>none
theorem Reps.keys {K:PySem.W.Frag} {H:Hp} {vs:List V} {ds:List D} {ks:List Key} (h:Reps K H vs ds):keysOf ds=some ks→vs=ks.map kV:=
  Reps.ind (M:=fun vs ds=>∀ ks:List Key,keysOf ds=some ks→vs=ks.map kV) (fun ks e=>by cases e; rfl) (fun {v d vs ds} h _ ih ks e=>by
    unfold keysOf at e
    cases q:dKey d with
    | none=>rw [q] at e; cases e
    | some k=>
      rw [q,Option.bind_some] at e
      cases q2:keysOf ds with
      | none=>rw [q2] at e; cases e
      | some kr=>
        rw [q2] at e
        cases e
        rw [ih _ q2,List.map_cons]
        cases d with
        | int i=>cases q; cases h; rfl
        | str i=>cases q; cases h; rfl
        | _=>cases q) h ks
theorem keyT_at {K:PySem.W.Frag} {P F H:Hp} {y:V} {dy:D} {ks:List Key} (hp:DHp P F H) (r:Rep K F y dy) (h:keyT dy=some ks):∃ b,y=.ref b∧H b=some (.tup (ks.map kV)):=by
  cases dy with
  | tup ds=>cases r with | tup h1 h2=>exact ⟨_,rfl,by rw [hp.sub _ _ h1,h2.keys h]⟩
  | _=>cases h
section
variable {X:Cx} {a b o i e f:Expr} {pos pos' apos cpos:Pos} {fd fk fx fv:DF→Option D}
noncomputable def dctGet2 (fd fk fx:DF→Option D):DF→Option D:=fun ρ=>match fd ρ with
  | some (.dT kvs)=>(fk ρ).bind fun y=>(keyT y).bind fun k=>(fx ρ).map fun x=>(valD kvs k).getD x
  | _=>none
theorem pd_dget2 (hu:X.A.units + 64 < cLine) (ho:PDR X o fd) (hi:PDE X e fk) (hx:PDE X f fx) (m:M2 X o "get" apos e f cpos:=by exact ⟨rfl,rfl,rfl,rfl⟩):PDE X (.Call (.Attribute o "get" apos) [e,f] [] cpos) (dctGet2 fd fk fx):=(pe_dget2 (by omega) ho hi hx m).imp fun σ H Q=>un7 fun P F ρ d hf I k=>by
  unfold dctGet2 at hf
  split at hf
  · rename_i kvs qa
    cases qb:fk ρ with
    | none=>rw [qb] at hf; cases hf
    | some dy=>
      rw [qb,Option.bind_some] at hf
      cases qk:keyT dy with
      | none=>rw [qk] at hf; cases hf
      | some ks=>
        rw [qk,Option.bind_some] at hf
        cases qx:fx ρ with
        | none=>rw [qx] at hf; cases hf
        | some dz=>
          rw [qx] at hf
          cases hf
          refine ⟨P,F,ρ,_,qa,I,fun x F1 H1 e1 rx=>?_⟩
          obtain ⟨p,vs,rfl,h1,h2⟩:=rep_dT (I.evo e1) rx
          refine ⟨p,rfl,.inr ⟨vs,.inl h1⟩,P,F1,ρ,_,qb,I.evo e1,fun y F2 H2 e2 ry=>⟨P,F2,ρ,_,qx,(I.evo e1).evo e2,fun z F3 H3 e3 rz=>?_⟩⟩
          have I3:=((I.evo e1).evo e2).evo e3
          obtain ⟨p',vs',ep,h1',h2'⟩:=rep_dT I3 ((rx.evo e2).evo e3)
          cases ep
          obtain ⟨q,rfl,h3⟩:=keyT_at e3.hp (ry.same e3.ext) qk
          refine ⟨_,DGet.t h1' h3,?_⟩
          have e123:=(e1.trans e2).trans e3
          rcases h2'.val (k:=ks) with ⟨z1,z2⟩ | ⟨v,d',z1,z2,z3⟩
          · rw [z1]; exact k _ F3 H3 e123 (by show Rep X.K F3 z ((valD kvs ks).getD dz); rw [z2]; exact rz)
          · rw [z1]; exact k _ F3 H3 e123 (by show Rep X.K F3 v ((valD kvs ks).getD dz); rw [z2]; exact z3)
  · cases hf
theorem pdo_dnewT:PDO X (.Dict [] [] pos) (fun _=>some (.dT [])):=pe_dnewT.imp fun σ H Q=>un7 fun P F ρ ob hf I k=>by
  cases hf
  exact fun p hp=>k p F _ (Evo.side I.toDHp hp) ⟨⟨hp,(I.toDHp.free hp).1⟩,_,upd_same,.nil⟩
noncomputable def dPutT (j:Nat) (fk fv:DF→Option D):DF→Option RES:=fun ρ=>match ρ[j]? with
  | some (some (.own (.dT kvs) t))=>(fv ρ).bind fun v=>(fk ρ).bind fun y=>(keyT y).bind fun k=>if kvs.length < 16777216 then some (.nx (ρ.set j (some (.own (.dT (putD kvs k v)) t)))) else none
  | _=>none
theorem pd_dput (j:Nat) (hu:X.A.units + 64 < cLine) (ho:PE X o (tVar j)) (hi:PDE X i fk) (hv:PDE X e fv) (hs:swapsWith e (some (.Subscript o i pos')) pos.line X.env=pure false:=by rfl):PD1 X (.Assign [.Subscript o i pos'] e pos) (dPutT j fk fv):=
  PS.imp (ps_dput (by omega) ho hi hv hs) fun E σ H=>un7 fun P F ρ r hr I k=>by
    unfold dPutT at hr
    split at hr
    · rename_i kvs t q
      cases qv:fv ρ with
      | none=>rw [qv] at hr; cases hr
      | some dv=>
      rw [qv,Option.bind_some] at hr
      cases qb:fk ρ with
      | none=>rw [qb] at hr; cases hr
      | some dy=>
      rw [qb,Option.bind_some] at hr
      cases qk:keyT dy with
      | none=>rw [qk] at hr; cases hr
      | some ks=>
      rw [qk,Option.bind_some] at hr
      split at hr
      · rename_i hl
        cases hr
        obtain ⟨v,h1,p,rfl,⟨⟨a1,a2,_⟩,u,a3,a4⟩,_⟩:=I.at q
        cases u with
        | dT vs=>
          have a4:RepsT X.K F vs kvs:=a4
          refine ⟨P,F,ρ,_,qv,I,fun v F1 H1 e1 rv=>⟨_,h1,P,F1,ρ,_,qb,I.evo e1,fun y F2 H2 e2 ry=>?_⟩⟩
          have e12:=e1.trans e2
          obtain ⟨k1,k2⟩:=e12.keep p _ a3 a1
          obtain ⟨b',rfl,h3⟩:=keyT_at e12.hp ry qk
          refine ⟨p,_,rfl,DPut.t k1 h3 (by rw [sizeLine_eq,a4.length]; exact hl),k σ F2 _ e12.ext ?_⟩
          exact (I.evo e12).mut (o':=.dT _) (u:=.dT _) q rfl rfl h1 ((RepsT.same e12.ext a4).put (rv.same e2.ext))
        | _=>exact a4.elim
      · cases hr
    · cases hr
end
end L2
namespace L2
open PySem PySem.Spec PyProof.Rows PySem.W
section
variable {prog:Program} {w:World} {A:Around} {E:Value→Shared→Prop} {s:Shared}
noncomputable def SortsTo (prog:Program) (w:World) (A:Around) (Q:Value→Shared→Prop) (vs:List Value) (s1:Shared):Prop:=
  vs.length < 64∧∃ (κ:SortKind) (lt:Nat→Nat→Bool),Ord lt ∧
    (2≤vs.length→∀ h',(∀ b u,s1.heap.get? b=some u→h'.get? b=some u)→∀ (Q:SortKind→Shared→Prop) (E:Value→Shared→Prop),Q κ { s1 with heap:=h' }→wpAny (model prog w) A.in1.in1 (keyKind' vs.toArray) Q E { s1 with heap:=h' }) ∧
    (∀ h',(∀ b u,s1.heap.get? b=some u→h'.get? b=some u)→∀ i j C,i < vs.length→j < vs.length→C (lt i j) { s1 with heap:=h' }→kas_ask prog w A.in1.in1 κ vs i j C { s1 with heap:=h' }) ∧
    ∀ p,PermN vs.length p→Ris lt p vs.length→∀ (a:Addr) (h':Heap) (e:Nat),(∀ b u,s1.heap.get? b=some u→h'.get? b=some u)→s1.heap.objs.size≤a→h'.get? a=some (seqObj "list" (outOf vs p) e)→Q (.ref a) { s1 with heap:=h' }
theorem sorted_core {v:Value} {Q:Value→Shared→Prop} (hcol:wpAny (model prog w) A.in1 (collect v) (SortsTo prog w A Q) E s) :
    wpAny (model prog w) A (call (.builtin "sorted") [v]) Q E s:=by
  refine Calls.call_function_entry kind_sorted plain_sorted entry_sorted (args_sorted1 _) ?_
  unfold Builtin.«sorted»
  refine wpAny_bind (m:=checkCount "sorted" 1 1 _) (wpAny_pure ?_)
  refine wpAny_bind (wpAny_mono hcol (fun vs s1 hh_=>?_) fun _ _ e=>e)
  obtain ⟨h64,κ,lt,o,hk,hc,h⟩:=hh_
  refine wpAny_bind (wpAny_newList ?_ (by rw [sizeLine_eq]; omega))
  have hoL:(s1.heap.push (seqObj "list" vs.toArray 0)).get? s1.heap.objs.size=some (seqObj "list" vs.toArray 0):=Heap.get?_push_size _ rfl
  have keep:∀ b u,s1.heap.get? b=some u→(s1.heap.push (seqObj "list" vs.toArray 0)).get? b=some u:=fun b u q=>Heap.get?_push_of_some _ q
  show wpAny _ _ _ _ _ { s1 with heap:=s1.heap.push (seqObj "list" vs.toArray 0) }
  have lift:∀ h':Heap,(∀ b u,b≠s1.heap.objs.size→(s1.heap.push (seqObj "list" vs.toArray 0)).get? b=some u→h'.get? b=some u)→∀ b u,s1.heap.get? b=some u→h'.get? b=some u:=fun h' k b u e=>
    k b u (Nat.ne_of_lt (Heap.lt_size e)) (keep b u e)
  refine wpAny_bind (wpAny_holding (wpAny_call_entry slot_list_sort ⟨_,hoL,rfl⟩ entry_list_sort ?body (args_list_sort _)))
  case body=>
    refine list_sort_gen hoL h64 κ lt o (fun h2 h' k Q q=>hk h2 h' (lift h' k) Q _ q) (fun h' k=>hc h' (lift h' k)) fun p hp hr=>⟨_,rfl,?_⟩
    obtain ⟨e,he⟩:=sortedHeap_at (out:=outOf vs p) hoL
    refine wpAny_pure ⟨_,rfl,h p hp hr s1.heap.objs.size _ e (fun b u q=>?_) (Nat.le_refl _) he⟩
    have hlt:b < s1.heap.objs.size:=Heap.lt_size q
    show (sortedHeap (s1.heap.push (seqObj "list" vs.toArray 0)) s1.heap.objs.size vs (outOf vs p)).get? b=some u
    rw [sortedHeap_old (Nat.ne_of_lt hlt) (by rw [size_push']; exact Nat.lt_succ_of_lt hlt)]
    exact keep b u q
theorem collect_tuple {l:Addr} {vs:List Value} {Q:List Value→Shared→Prop} (hl:IsTup s.heap l vs.toArray)
    (h:Q vs { s with heap:=(s.heap.push (seqObj "list" #[] 0)).update s.heap.objs.size (Obj.mapSeq (·++vs.toArray)) }) (hsz:vs.length≤sizeLine) :
    wpAny (model prog w) A (collect (.ref l)) Q E s:=by
  obtain ⟨o,ho,hc,n,hd⟩:=id hl
  unfold collect
  refine wpAny_bind (wpAny_runValue (codeAny_builtin entry_proto_collect' ?_))
  show wpAny _ _ (do again (.builtin "list.__iadd__" ⟨[← newList [],.ref l],[]⟩)) _ _ s
  refine wpAny_bind (wpAny_newList (wpAny_pure ⟨Code.quiet_builtin _ (by decide +kernel),codeAny_builtin entry_list_iadd' ?_⟩))
  show wpAny _ _ (Builtin.List.listExtendWith (.ref s.heap.objs.size) (.ref l) (.ref s.heap.objs.size)) _ _ { s with heap:=s.heap.push (seqObj "list" #[] 0) }
  unfold Builtin.List.listExtendWith
  have ho':(s.heap.push (seqObj "list" #[] 0)).get? l=some o:=Heap.get?_push_of_some _ ho
  refine wpAny_bind (wpAny_typeOf (T := "tuple") ⟨o,ho',hc⟩ ?_)
  rw [if_pos (by have ht:(Value.type "tuple" == Value.type "tuple")=true:=by rfl
                 rw [ht]; simp)]
  refine wpAny_bind (listItems_at ho' hd ?_)
  refine wpAny_bind (listItems_at (xs:=#[]) (n:=0) (Heap.get?_push_size _ rfl) rfl ?_)
  rw [if_neg (by simp)]
  refine wpAny_bind (listUpdate_at (xs:=#[]) (n:=0) (Heap.get?_push_size _ rfl) rfl ?_ (Nat.zero_le _) (by show (#[]++vs.toArray).size≤sizeLine + 1; simp only [Array.size_append,List.size_toArray,List.length_nil]; omega))
  refine wpAny_pure ?_
  show wpAny (model prog w) A (do
      let o ← load s.heap.objs.size
      match o.data with
      | .seq xs _=>pure xs.toList
      | _=>unsupported "internal:collect") Q E { s with heap:=(s.heap.push (seqObj "list" #[] 0)).update s.heap.objs.size (Obj.mapSeq (·++vs.toArray)) }
  refine wpAny_bind (wpAny_load (get?_update_seq (Heap.get?_push_size _ rfl) _) ?_)
  show wpAny _ _ (pure ((#[]:Array Value)++vs.toArray).toList) Q E _
  rw [show ((#[]:Array Value)++vs.toArray).toList=vs by simp]
  exact wpAny_pure h
theorem collected_keep {h:Heap} {vs:List Value} {b:Addr} {u:Obj} (q:h.get? b=some u):((h.push (seqObj "list" #[] 0)).update h.objs.size (Obj.mapSeq (·++vs.toArray))).get? b=some u:=by
  have hlt:b < h.objs.size:=Heap.lt_size q
  rw [Heap.get?_update_ne _ _ _ _ (Nat.ne_of_lt hlt),Heap.get?_push_ne _ _ _ (Nat.ne_of_lt hlt)]
  exact q
end
noncomputable def sk:D→Bool
  | .int _=>true
  | .str _=>true
  | .tup (_::_)=>true
  | _=>false
noncomputable def fk:D→Bool
  | .int _=>true
  | .str _=>true
  | .tup _=>true
  | _=>false
noncomputable def firstOk:D→Bool
  | .tup (d::_)=>fk d
  | _=>true
noncomputable def sortOk (ds:List D):Bool:=decide (ds.length < 64)&&ds.all (okN 28)&&(ds.all fun x=>ds.all fun y=>cmpOk x y)&&ds.all sk&&ds.all firstOk
theorem sortOk_iff {ds:List D} (h:sortOk ds=true):ds.length < 64∧Cmps 28 ds∧(∀ d∈ds,sk d=true)∧∀ d∈ds,firstOk d=true:=by
  unfold sortOk at h
  simp only [Bool.and_eq_true,decide_eq_true_eq] at h
  obtain ⟨⟨⟨⟨h1,h2⟩,h3⟩,h4⟩,h5⟩:=h
  exact ⟨h1,⟨fun d hd=>List.all_eq_true.mp h2 d hd,fun x hx y hy=>List.all_eq_true.mp (List.all_eq_true.mp h3 x hx) y hy⟩,fun d hd=>List.all_eq_true.mp h4 d hd,fun d hd=>List.all_eq_true.mp h5 d hd⟩
noncomputable def dAt (ds:List D) (i:Nat):D:=ds.getD i (ds.headD (.int 0))
theorem dAt_mem {ds:List D} (h:ds≠[]) (i:Nat):dAt ds i∈ds:=by
  unfold dAt
  cases ds with
  | nil=>exact absurd rfl h
  | cons d r=>
    rw [List.getD_eq_getElem?_getD]
    cases q:(d::r)[i]? with
    | none=>exact List.mem_cons_self
    | some x=>exact List.mem_of_getElem? q
theorem dAt_lt {ds:List D} {i:Nat} (h:i < ds.length):ds[i]?=some (dAt ds i):=by
  unfold dAt
  rw [List.getD_eq_getElem?_getD,List.getElem?_eq_getElem h]
  rfl
theorem ord_of {n:Nat} {ds:List D} (hc:Cmps n ds):Ord fun i j=>ltD (dAt ds i) (dAt ds j):=by
  by_cases hn:ds=[]
  · subst hn
    have e:∀ i,dAt [] i=.int 0:=fun i=>by simp [dAt]
    refine ⟨fun i j h=>?_,fun i j k h1 h2=>?_⟩
    · rw [e,e] at h; simp [ltD] at h
    · rw [e,e]; simp [ltD]
  · have m:=fun i=>dAt_mem hn i
    refine ⟨fun i j h=>?_,fun i j k h1 h2=>?_⟩
    · exact (fc2_all n _ _ (hc.1 _ (m i)) (hc.1 _ (m j)) (hc.2 _ (m i) _ (m j))).as h
    · exact nlt_trans (hc.1 _ (m i)) (hc.1 _ (m j)) (hc.1 _ (m k)) (hc.2 _ (m i) _ (m j)) (hc.2 _ (m j) _ (m k)) (hc.2 _ (m i) _ (m k)) (hc.2 _ (m j) _ (m i)) (hc.2 _ (m k) _ (m j)) (hc.2 _ (m k) _ (m i)) h1 h2
theorem out_sorted {n:Nat} {ds:List D} (hc:Cmps n ds) {p:Array Nat} (hp:PermN ds.length p) (hr:Ris (fun i j=>ltD (dAt ds i) (dAt ds j)) p ds.length):p.toList.map (dAt ds)=sortD ds:=by
  refine sortD_uniq (n:=n) ?_ hc ?_
  · have h1:(p.toList.map (dAt ds)).Perm ((List.range ds.length).map (dAt ds)):=hp.perm.map _
    have h2:(List.range ds.length).map (dAt ds)=ds:=by
      apply List.ext_getElem?
      intro i
      rw [List.getElem?_map]
      by_cases h:i < ds.length
      · rw [List.getElem?_range h,Option.map_some,dAt_lt h]
      · rw [List.getElem?_eq_none (by rw [List.length_range]; omega),List.getElem?_eq_none (by omega)]; rfl
    rw [h2] at h1
    exact h1
  · rw [List.pairwise_map,List.pairwise_iff_getElem]
    intro i j hi hj hij
    have hs:=hp.size
    rw [Array.length_toList] at hi hj
    have:=hr i j (Nat.le_of_lt hij) (by omega)
    have e:∀ k (h:k < p.size),p.getD k 0=p[k]:=fun k h=>by simp [Array.getD,h]
    rw [e i hi,e j hj] at this
    simpa using this
theorem Reps.perm {K:PySem.W.Frag} {H:Hp} {vs:List V} {ds:List D} (r:Reps K H vs ds) (hn:ds≠[]):∀ (l:List Nat),(∀ i∈l,i < ds.length)→Reps K H (l.map fun i=>vs.getD i .non) (l.map (dAt ds))
  | [],_=>.nil
  | i::l,h=>by
    obtain ⟨v,h1,h2⟩:=r.get (dAt_lt (h i List.mem_cons_self))
    have e:vs.getD i .non=v:=by rw [List.getD_eq_getElem?_getD,h1]; rfl
    rw [List.map_cons,List.map_cons]
    show Reps K H (vs.getD i .non::_) _
    rw [e]
    exact .cons h2 (Reps.perm r hn l fun j hj=>h j (List.mem_cons_of_mem _ hj))
theorem Vals.perm {vs:List V} {us:List Value} (r:Vals vs us):∀ (l:List Nat),(∀ i∈l,i < vs.length)→Vals (l.map fun i=>vs.getD i .non) (l.map fun i=>us.getD i Value.none)
  | [],_=>.nil
  | i::l,h=>by
    have hi:=h i List.mem_cons_self
    obtain ⟨u,h1,h2⟩:=r.get (List.getElem?_eq_getElem hi)
    have e1:vs.getD i .non=vs[i]:=by rw [List.getD_eq_getElem?_getD,List.getElem?_eq_getElem hi]; rfl
    have e2:us.getD i Value.none=u:=by rw [List.getD_eq_getElem?_getD,h1]; rfl
    rw [List.map_cons,List.map_cons]
    show Vals (vs.getD i .non::_) (us.getD i Value.none::_)
    rw [e1,e2]
    exact .cons h2 (Vals.perm r l fun j hj=>h j (List.mem_cons_of_mem _ hj))
noncomputable def tyD:D→Value
  | .int _=>.type "int"
  | .str _=>.type "str"
  | _=>.type "tuple"
section
variable {X:Cx} {pins:List (Addr×Obj)} {σ:St} {H:Hp} {s:Shared}
theorem Rep.ty (I:Inv X pins σ H s) {v:V} {d:D} {u:Value} (h:Rep X.K H v d) (hk:fk d=true) (r:RelV v u) (M:Model):Looks M s.heap (typeOf u) (tyD d):=by
  cases d with
  | int i=>cases h; obtain ⟨t,rfl⟩:=(show ∃ t,u=Value.int _ t from r); exact Looks.of_pure rfl
  | str i=>cases h; obtain ⟨t,rfl⟩:=(show ∃ t,u=Value.str _ t from r); exact Looks.of_pure rfl
  | tup ds=>
    cases h with
    | tup h1 h2=>
      cases (show u=Value.ref _ from r)
      obtain ⟨its,rv,⟨o,ho,hc,n,hd⟩,_⟩:=I.tuple (SqT.of h1)
      have:=(Looks.ld (M:=M) (part:=none) ho).andThen (f:=fun o=>pure o.cls) .now
      rw [hc] at this
      exact this
  | _=>cases hk
theorem cmp_ty {x y:D} (h:cmpOk x y=true) (hx:fk x=true):tyD x=tyD y:=by
  rcases cmpOk_inv h with ⟨i,j,rfl,rfl⟩ | ⟨i,j,rfl,rfl⟩ | ⟨i,j,rfl,rfl⟩ | ⟨i,j,rfl,rfl,_⟩
  · rfl
  · cases hx
  · rfl
  · rfl
noncomputable def kindD:List D→SortKind
  | .tup (d::_)::_=>tuples' (tyD d != .type "tuple")
  | _=>oneType'
theorem tup_firsts (I:Inv X pins σ H s):∀ {vs:List V} {ds:List D} {us:List Value},Reps X.K H vs ds→Vals vs us→(∀ d∈ds,∃ x r,d=.tup (x::r)∧fk x=true)→∀ T:Value,(∀ x r,.tup (x::r)∈ds→tyD x=T)→
    ∃ fs:List Value,KatTups s.heap us fs∧fs.length=us.length∧∀ M,∀ v∈fs,Looks M s.heap (typeOf v) T:=by
  intro vs ds us h
  exact Reps.ind (M:=fun vs ds=>∀ us:List Value,Vals vs us→(∀ d∈ds,∃ x r,d=.tup (x::r)∧fk x=true)→∀ T:Value,(∀ x r,.tup (x::r)∈ds→tyD x=T) →     ∃ fs:List Value,KatTups s.heap us fs∧fs.length=us.length∧∀ M,∀ v∈fs,Looks M s.heap (typeOf v) T) (fun us r _ _ _=>by cases r; exact ⟨[],.nil,rfl,fun _ _ h=>by cases h⟩) (fun h _ ih us r0 hd T hT=>by
    cases r0 with
    | cons r t=>
    obtain ⟨x,rr,rfl,hx⟩:=hd _ List.mem_cons_self
    obtain ⟨fs,f1,f2,f3⟩:=ih _ t (fun d m=>hd d (List.mem_cons_of_mem _ m)) T fun x r m=>hT x r (List.mem_cons_of_mem _ m)
    cases h with
    | tup h1 h2=>
      cases (show _=Value.ref _ from r)
      obtain ⟨its,rv,⟨o,ho,hc,n,hdt⟩,_⟩:=I.tuple (SqT.of h1)
      cases h2 with
      | cons g1 g2=>
        cases rv with
        | cons k1 k2=>
          refine ⟨_::fs,KatTups.cons ho hc hdt (by simp; rfl) f1,by rw [List.length_cons,List.length_cons,f2],fun M v hv=>?_⟩
          rcases List.mem_cons.mp hv with rfl | hv
          · rw [← hT x rr List.mem_cons_self]
            exact g1.ty I hx k1 M
          · exact f3 M v hv) h us
theorem scal_ty {d:D} (h:sk d=true) (ht:isTup d=false):fk d=true:=by cases d <;> first | rfl | cases h | cases ht
theorem kind_ok (I:Inv X pins σ H s) {vs:List V} {ds:List D} {us:List Value} (r:Reps X.K H vs ds) (rv:Vals vs us) (ok:sortOk ds=true) (h2:2≤us.length) {A:Around} {M:Model} {Q:SortKind→Shared→Prop} {E:Value→Shared→Prop} (hQ:Q (kindD ds) s) :
    wpAny M A (keyKind' us.toArray) Q E s:=by
  obtain ⟨hl,hc,hs,hf⟩:=sortOk_iff ok
  have l1:=r.length
  have l2:=rv.length
  cases ds with
  | nil=>rw [List.length_nil] at l1; omega
  | cons d dr=>
    have md:d∈d::dr:=List.mem_cons_self
    cases ht:isTup d with
    | true=>
      cases d with
      | tup xs=>
        cases xs with
        | nil=>have:=hs _ md; cases this
        | cons x rr=>
          have hx:fk x=true:=hf _ md
          have all:∀ d'∈(D.tup (x::rr)::dr),∃ y r',d'=.tup (y::r')∧fk y=true∧tyD y=tyD x:=fun d' m=>by
            have hcm:=hc.2 _ md _ m
            rcases cmpOk_inv hcm with ⟨i,j,e,_⟩ | ⟨i,j,e,_⟩ | ⟨i,j,e,_⟩ | ⟨i,j,e,e2,hcs⟩
            · cases e
            · cases e
            · cases e
            · cases e
              subst e2
              cases j with
              | nil=>have:=hs _ m; cases this
              | cons y r'=>
                rw [cmpOks,Bool.and_eq_true] at hcs
                exact ⟨y,r',rfl,hf _ m,(cmp_ty hcs.1 hx).symm⟩
          obtain ⟨fs,f1,f2,f3⟩:=tup_firsts I r rv (fun d' m=>by obtain ⟨y,r',e,h,_⟩:=all d' m; exact ⟨y,r',e,h⟩) (tyD x) fun y r' m=>by
            obtain ⟨y',r'',e,_,h⟩:=all _ m
            cases e
            exact h
          exact kat_kind f1 (by omega) (f3 M) (by cases x <;> rfl) hQ
      | _=>cases ht
    | false=>
      have hd:fk d=true:=scal_ty (hs d md) ht
      have e:kindD (d::dr)=oneType':=by cases d <;> first | rfl | cases ht
      rw [e] at hQ
      have hT:∀ u∈us,Looks M s.heap (typeOf u) (tyD d):=fun u hu=>by
        obtain ⟨i,hi,eu⟩:=List.getElem_of_mem hu
        have hiv:i < vs.length:=by omega
        obtain ⟨u',e1,e2⟩:=rv.get (List.getElem?_eq_getElem hiv)
        rw [List.getElem?_eq_getElem hi,eu] at e1
        cases e1
        obtain ⟨d',e3,e4⟩:=r.getV (List.getElem?_eq_getElem hiv)
        have m:=List.mem_of_getElem? e3
        have hcm:=hc.2 _ md _ m
        rw [cmp_ty hcm hd]
        refine e4.ty I ?_ e2 M
        refine scal_ty (hs d' m) ?_
        rcases cmpOk_inv hcm with ⟨i,j,rfl,rfl⟩ | ⟨i,j,rfl,rfl⟩ | ⟨i,j,rfl,rfl⟩ | ⟨i,j,rfl,rfl,_⟩
        · rfl
        · rfl
        · rfl
        · cases ht
      refine kas_kind h2 hT ?_ ?_ hQ
      · cases d <;> first | rfl | (simp [fk] at hd; done) | (simp [isTup] at ht; done)
      · cases d <;> rfl
theorem lex_kat {A:Around} {prog:Program} {w:World} {b:Bool} {Q:Bool→Shared→Prop} {n1 n2:Nat}:∀ {us ws:List Value} {ds es:List D} (i:Nat),LexOk A s us ws ds es→(b=true→i=0→∀ u w' d e ur wr dr er,us=u::ur→ws=w'::wr→ds=d::dr→es=e::er→∀ (Q:Bool→Shared→Prop) (E:Value→Shared→Prop),Q (ltD d e) s→wpAny (model prog w) A (oneLt' true u w') Q E s)→
    us.length + n2=ws.length + n1→Q (lexD ds es) s→KatLex prog w A b (decide (n1 < n2)) Q (us.zip ws) i s:=by
  intro us ws ds es i h
  induction h generalizing i with
  | @nl ws es hl=>
    intro _ hn hQ
    rw [List.zip_nil_left]
    refine kat_nil ?_
    rw [List.length_nil] at hn
    cases es with
    | nil=>
      rw [List.length_nil] at hl
      rw [show lexD [] []=false by simp [lexD]] at hQ
      rw [decide_eq_false (by omega)]; exact hQ
    | cons c r=>
      rw [List.length_cons] at hl
      rw [show lexD [] (c::r)=true by simp [lexD]] at hQ
      rw [decide_eq_true (by omega)]; exact hQ
  | @nr vs ds hl=>
    intro _ hn hQ
    rw [List.zip_nil_right]
    refine kat_nil ?_
    rw [List.length_nil] at hn
    cases ds with
    | nil=>
      rw [List.length_nil] at hl
      rw [show lexD [] []=false by simp [lexD]] at hQ
      rw [decide_eq_false (by omega)]; exact hQ
    | cons c r=>
      rw [List.length_cons] at hl
      rw [show lexD (c::r) []=false by simp [lexD]] at hQ
      rw [decide_eq_false (by omega)]; exact hQ
  | @cons v w' d e _ _ _ _ he hlt hx ih=>
    intro h1 hn hQ
    rw [List.zip_cons_cons]
    rw [List.length_cons,List.length_cons] at hn
    refine kat_cons (he prog w _ _ ?_)
    cases q:eqd d e with
    | true=>
      rw [lexD,if_pos q] at hQ
      exact kat_yes (ih (i + 1) (fun _ z=>by omega) (by omega) hQ)
    | false=>
      rw [lexD,if_neg (by rw [q]; exact Bool.false_ne_true)] at hQ
      refine kat_no ?_
      cases hb:(b&&i == 0) with
      | true=>
        rw [Bool.and_eq_true] at hb
        exact h1 hb.1 (by simpa using hb.2) _ _ _ _ _ _ _ _ rfl rfl rfl rfl _ _ hQ
      | false=>exact kat_one _ _ (hlt q prog w _ _ hQ)
theorem one_lt {A:Around} {prog:Program} {w:World} {x y:V} {d e:D} {u v:Value} (h1:Rep X.K H x d) (h2:Rep X.K H y e) (c:cmpOk d e=true) (hd:fk d=true) (ht:isTup d=false) (r1:RelV x u) (r2:RelV y v) {Q:Bool→Shared→Prop} {E:Value→Shared→Prop} (hQ:Q (ltD d e) s) :
    wpAny (model prog w) A (oneLt' true u v) Q E s:=by
  rcases cmpOk_inv c with ⟨i,j,rfl,rfl⟩ | ⟨i,j,rfl,rfl⟩ | ⟨i,j,rfl,rfl⟩ | ⟨i,j,rfl,rfl,_⟩
  · cases h1; cases h2
    obtain ⟨t,rfl⟩:=(show ∃ t,u=Value.int _ t from r1)
    obtain ⟨t',rfl⟩:=(show ∃ t,v=Value.int _ t from r2)
    exact oneLt_int (by rw [ltD] at hQ; exact hQ)
  · cases hd
  · cases h1; cases h2
    obtain ⟨t,rfl⟩:=(show ∃ t,u=Value.str _ t from r1)
    obtain ⟨t',rfl⟩:=(show ∃ t,v=Value.str _ t from r2)
    exact oneLt_str (by rw [ltD] at hQ; exact hQ)
  · cases ht
theorem ask_ok (I:Inv X pins σ H s) {vs:List V} {ds:List D} {us:List Value} (r:Reps X.K H vs ds) (rv:Vals vs us) (ok:sortOk ds=true) {A:Around} (hu:A.units + 60 < cLine) {prog:Program} {w:World} {i j:Nat} {C:Bool→Shared→Prop} (hi:i < us.length) (hj:j < us.length) (hQ:C (ltD (dAt ds i) (dAt ds j)) s) :
    kas_ask prog w A (kindD ds) us i j C s:=by
  obtain ⟨hl,hc,hs,hf⟩:=sortOk_iff ok
  have l1:=r.length
  have l2:=rv.length
  obtain ⟨v,e1,r1⟩:=r.get (dAt_lt (show i < ds.length by omega))
  obtain ⟨v',e2,r2⟩:=r.get (dAt_lt (show j < ds.length by omega))
  obtain ⟨u,e3,k1⟩:=rv.get e1
  obtain ⟨u',e4,k2⟩:=rv.get e2
  have hn:ds≠[]:=fun z=>by rw [z,List.length_nil] at l1; omega
  have mi:=dAt_mem hn i
  have mj:=dAt_mem hn j
  have hcm:=hc.2 _ mi _ mj
  unfold kas_ask
  have g1:us.getD i Value.none=u:=by rw [List.getD_eq_getElem?_getD,e3]; rfl
  have g2:us.getD j Value.none=u':=by rw [List.getD_eq_getElem?_getD,e4]; rfl
  rw [g1,g2]
  generalize hx:dAt ds i=x at *
  generalize hy:dAt ds j=y at *
  cases ht:isTup x with
  | false=>
    have e:kindD ds=oneType':=by
      cases ds with
      | nil=>exact absurd rfl hn
      | cons d dr=>
        have:=hc.2 _ mi d List.mem_cons_self
        rcases cmpOk_inv this with ⟨i,j,rfl,rfl⟩ | ⟨i,j,rfl,rfl⟩ | ⟨i,j,rfl,rfl⟩ | ⟨i,j,rfl,rfl,_⟩
        · rfl
        · rfl
        · rfl
        · cases ht
    rw [e,keyLt'_oneType]
    exact one_lt r1 r2 hcm (scal_ty (hs _ mi) ht) ht k1 k2 hQ
  | true=>
    cases x with
    | tup xs=>
      cases xs with
      | nil=>have:=hs _ mi; cases this
      | cons x0 xr=>
        rcases cmpOk_inv hcm with ⟨_,_,e,_⟩ | ⟨_,_,e,_⟩ | ⟨_,_,e,_⟩ | ⟨xs',ys,e,rfl,hcs⟩
        · cases e
        · cases e
        · cases e
        · cases e
          have ek:kindD ds=tuples' (tyD x0 != .type "tuple"):=by
            cases ds with
            | nil=>exact absurd rfl hn
            | cons d dr=>
              have:=hc.2 _ mi d List.mem_cons_self
              rcases cmpOk_inv this with ⟨_,_,e,_⟩ | ⟨_,_,e,_⟩ | ⟨_,_,e,_⟩ | ⟨_,zs,e,rfl,hz⟩
              · cases e
              · cases e
              · cases e
              · cases e
                cases zs with
                | nil=>have:=hs (.tup []) List.mem_cons_self; cases this
                | cons z0 zr=>
                  rw [cmpOks,Bool.and_eq_true] at hz
                  show tuples' (tyD z0 != _)=_
                  rw [cmp_ty hz.1 (hf _ mi)]
          rw [ek]
          cases r1 with
          | tup a1 a2=>
            cases r2 with
            | tup b1 b2=>
              cases (show u=Value.ref _ from k1)
              cases (show u'=Value.ref _ from k2)
              obtain ⟨its1,rv1,⟨o1,ho1,hc1,n1,hd1⟩,_⟩:=I.tuple (SqT.of a1)
              obtain ⟨its2,rv2,⟨o2,ho2,hc2,n2,hd2⟩,_⟩:=I.tuple (SqT.of b1)
              have oi:okN 28 (.tup (x0::xr))=true:=hc.1 _ mi
              have oj:okN 28 (.tup ys)=true:=hc.1 _ mj
              have hlex:=Reps.lex I 27 A (by omega) (Rep.lt I 27 A (by omega)) a2 b2 (okN_all oi) (okN_all oj) hcs rv1 rv2
              refine kat_lt ho1 hd1 ho2 hd2 ?_
              simp only [List.size_toArray]
              refine lex_kat 0 hlex (fun hb _ u0 w0 d0 e0 ur wr dr er q1 q2 q3 q4 Q E hq=>?_) (by omega) (by rw [ltD] at hQ; exact hQ)
              subst q1 q2 q4
              cases q3
              cases a2 with
              | cons a3 a4=>
                cases b2 with
                | cons b3 b4=>
                  cases rv1 with
                  | cons c1 c2=>
                    cases rv2 with
                    | cons c3 c4=>
                      rw [cmpOks,Bool.and_eq_true] at hcs
                      refine one_lt a3 b3 hcs.1 (hf _ mi) ?_ c1 c3 hq
                      cases x0 <;> first | rfl | (simp [tyD] at hb)
    | _=>cases ht
theorem sorts_to (I:Inv X pins σ H s) {vs:List V} {ds:List D} {us:List Value} (r:Reps X.K H vs ds) (rv:Vals vs us) (ok:sortOk ds=true) (hu:X.A.units + 64 < cLine) {Q:Value→Shared→Prop}
    (hQ:∀ (a:Addr) (p:List Nat) (s':Shared),H a=none→(∀ i∈p,i < ds.length)→p.length=ds.length→p.map (dAt ds)=sortD ds→Inv X pins σ (upd H a (.lst (p.map fun i=>vs.getD i .non))) s'→Q (.ref a) s'):SortsTo X.prog X.w X.A Q us s:=by
  obtain ⟨hl,hc,_,_⟩:=sortOk_iff ok
  have l1:=r.length
  have l2:=rv.length
  refine ⟨by omega,kindD ds,_,ord_of hc,fun h2 h' k Q E q=>kind_ok (I.kept (t':=s.toks) k) r rv ok h2 q,fun h' k i j C hi hj hq=>?_,fun p hp hr a h' e k hsz hget=>?_⟩
  · have hu':X.A.in1.in1.units + 60 < cLine:=by show X.A.units + 1 + 1 + 60 < cLine; omega
    exact ask_ok (I.kept (t':=s.toks) k) r rv ok hu' hi hj hq
  · have hp':PermN ds.length p:=by rw [← l1,l2]; exact hp
    have hr':Ris (fun i j=>ltD (dAt ds i) (dAt ds j)) p ds.length:=by rw [← l1,l2]; exact hr
    have eo:=out_sorted hc hp' hr'
    have bd:∀ i∈p.toList,i < ds.length:=fun i hi=>List.mem_range.mp (hp'.perm.mem_iff.mp hi)
    have hna:H a=none:=I.hok.fresh hsz
    have lenp:p.toList.length=ds.length:=by rw [Array.length_toList]; exact hp'.size
    refine hQ a p.toList _ hna bd lenp eo (I.laid (t':=s.toks) k hsz ⟨?_,p.toList.map fun i=>us.getD i Value.none,e,Vals.perm rv p.toList fun i hi=>by rw [l1]; exact bd i hi,?_⟩)
    · rw [List.length_map,lenp,sizeLine_eq]; omega
    · exact hget
end
section
variable {X:Cx} {e:Expr} {p pos:Pos} {fa:DF→Option D}
theorem call_sorted (hu:X.A.units + 64 < cLine):CallR X (.builtin "sorted") (fun xs H Q=>∃ a vs ds,xs=[.ref a]∧(SqL X.K H a vs∨SqT X.K H a vs)∧Reps X.K H vs ds∧sortOk ds=true∧∀ l (p:List Nat),H l=none→(∀ i∈p,i < ds.length)→p.length=ds.length→p.map (dAt ds)=sortD ds→Q (.ref l) (upd H l (.lst (p.map fun i=>vs.getD i .non)))):=by
  intro pins s σ H xs us Q I r h
  obtain ⟨a,vs,ds,rfl,hq,hr,ok,q⟩:=h
  obtain ⟨u,rfl,ru⟩:=vals1 r
  cases ru
  refine sorted_core ?_
  have fin:∀ its:List Value,Vals vs its→SortsTo X.prog X.w X.A (EP X pins σ Q) its { s with heap:=(s.heap.push (seqObj "list" #[] 0)).update s.heap.objs.size (Obj.mapSeq (·++its.toArray)) }:=fun its rv=>
    sorts_to (I.kept (t':=s.toks) fun b u e=>collected_keep e) hr rv ok hu fun l p s' hl b1 b2 b3 I'=>⟨.ref l,_,I',rfl,q l p hl b1 b2 b3⟩
  rcases hq with hq | hq
  · obtain ⟨its,rv,pl,hz⟩:=I.list hq
    exact collect_list pl.isList (fin its rv) (by rw [← rv.length]; exact hz)
  · obtain ⟨its,rv,pl,hz⟩:=I.tuple hq
    exact collect_tuple pl (fin its rv) (by rw [← rv.length]; exact hz)
noncomputable def sortL (fa:DF→Option D):DF→Option (List D):=fun ρ=>(fa ρ).bind fun d=>(itemsD d).bind fun ds=>if sortOk ds=true then some (sortD ds) else none
theorem pdo_sorted (hu:X.A.units + 64 < cLine) (hg:Gl X "sorted") (hm:X.mg "sorted"=none) (ha:PDR X e fa) (hs:starEach [e] X.env=[(false,eval e X.env)]:=by rfl) (hpl:(backTo pos (starEach [] X.env)).any (·.1)=false:=by rfl) :
    PDO X (.Call (.Name "sorted" p) [e] [] pos) (asL (sortL fa)):=
  (pe_callB (call_sorted hu) hg hm boot_sorted (pa_cons ha pa_nil hs) (by decide) (by decide) hs hpl).imp fun σ H Q=>un7 fun P F ρ ob hf I k=>by
    unfold asL sortL at hf
    cases ha:fa ρ with
    | none=>rw [ha] at hf; cases hf
    | some dx=>
    rw [ha,Option.bind_some] at hf
    cases hi:itemsD dx with
    | none=>rw [hi] at hf; cases hf
    | some ds=>
    rw [hi,Option.bind_some] at hf
    split at hf
    · rename_i ok
      cases hf
      refine ⟨P,F,ρ,dx,ha,I,fun x F1 H1 e1 rx=>?_⟩
      have I1:=I.evo e1
      have fin:∀ (vs:List V),Reps X.K F1 vs ds→∀ l (p:List Nat),H1 l=none→(∀ i∈p,i < ds.length)→p.length=ds.length→p.map (dAt ds)=sortD ds→Q (.ref l) (upd H1 l (.lst (p.map fun i=>vs.getD i .non))):=fun vs r l p hl b1 b2 b3=>by
        refine k l F1 _ (e1.trans (Evo.side e1.hp hl)) ⟨⟨e1.back I.toDHp hl,(e1.hp.free hl).1⟩,_,upd_same,?_⟩
        show Reps X.K F1 _ (sortD ds)
        by_cases hn:ds=[]
        · subst hn
          have:p=[]:=List.length_eq_zero_iff.mp b2
          rw [this]
          exact .nil
        · rw [← b3]
          exact r.perm hn p b1
      cases dx with
      | lst ds'=>
        cases hi
        obtain ⟨q,vs,rfl,h1,h2⟩:=rep_lst I1 rx
        exact ⟨q,vs,ds,rfl,.inl h1,h2.same I1.sub,ok,fin vs h2⟩
      | tup ds'=>
        cases hi
        obtain ⟨q,vs,rfl,h1,h2⟩:=rep_tup I1 rx
        exact ⟨q,vs,ds,rfl,.inr h1,h2.same I1.sub,ok,fin vs h2⟩
      | _=>cases hi
    · cases hf
end
end L2
namespace L2
open PySem PySem.Spec PyProof.Rows
noncomputable def cutL {α:Type} (xs:List α) (lo hi:Option Int):List α:=(xs.drop (HT.sIx xs.length 0 lo)).take (HT.sIx xs.length xs.length hi - HT.sIx xs.length 0 lo)
theorem Reps.cut {K:PySem.W.Frag} {F:Hp} {vs:List V} {ds:List D} (r:Reps K F vs ds) (lo hi:Option Int):Reps K F (cutV vs lo hi) (cutL ds lo hi):=by
  unfold cutV cutL
  rw [r.length]
  exact (r.drop _).take _
noncomputable def tOI (K:PySem.W.Frag) (f:DF→Option (Option Int)):TO:=fun σ H Q=>∃ P F ρ b,f ρ=some b∧DInv K P F H ρ σ∧∀ F' H',Evo P F H F' H'→Q b H'
noncomputable def PDB (X:Cx) (e:Option Expr) (f:DF→Option (Option Int)):Prop:=PO X e (tOI X.K f)
noncomputable def bNo:DF→Option (Option Int):=fun _=>some none
noncomputable def bI (f:DF→Option D):DF→Option (Option Int):=fun ρ=>match f ρ with
  | some (.int i)=>some (some i)
  | _=>none
section
variable {X:Cx} {e a b c o:Expr} {es:List Expr} {pos p p2:Pos} {lo hi:Option Expr} {fe fa fb:DF→Option D} {fl fh:DF→Option (Option Int)}
theorem PO.imp {t t':TO} {e:Option Expr} (h:PO X e t) (i:∀ σ H Q,t' σ H Q→t σ H Q):PO X e t':=fun pins s σ H Q I q=>h pins s σ H Q I (i σ H Q q)
theorem pdb_no:PDB X none bNo:=PO.imp po_none fun σ H Q=>un7 fun P F ρ b hf I k=>by
  cases hf
  exact k F H (Evo.refl I.toDHp)
theorem pdb_i {f:DF→Option D} (h:PDE X e f):PDB X (some e) (bI f):=PO.imp (po_some h) fun σ H Q=>un7 fun P F ρ b hf I k=>by
  unfold bI at hf
  split at hf
  · rename_i i q
    cases hf
    refine ⟨P,F,ρ,_,q,I,fun v F' H' ev r=>?_⟩
    cases r
    exact ⟨i,rfl,k F' H' ev⟩
  · cases hf
noncomputable def slL (fe:DF→Option D) (fl fh:DF→Option (Option Int)):DF→Option (List D):=fun ρ=>match fe ρ with
  | some (.lst xs)=>(fl ρ).bind fun l=>(fh ρ).map fun h=>cutL xs l h
  | _=>none
theorem pdo_slice (he:PDR X e fe) (hl:PDB X lo fl) (hh:PDB X hi fh):PDO X (.Subscript e (.Slice lo hi none p2) pos) (asL (slL fe fl fh)):=(pe_slice sl_list he hl hh).imp fun σ H Q=>un7 fun P F ρ ob hf I k=>by
  unfold asL at hf
  cases q:slL fe fl fh ρ with
  | none=>rw [q] at hf; cases hf
  | some out=>
  rw [q] at hf
  cases hf
  unfold slL at q
  split at q
  · rename_i xs q1
    cases q2:fl ρ with
    | none=>rw [q2] at q; cases q
    | some l=>
    rw [q2,Option.bind_some] at q
    cases q3:fh ρ with
    | none=>rw [q3] at q; cases q
    | some h=>
    rw [q3] at q
    cases q
    refine ⟨P,F,ρ,_,q1,I,fun x F1 H1 e1 rx=>⟨P,F1,ρ,l,q2,I.evo e1,fun F2 H2 e2=>⟨P,F2,ρ,h,q3,(I.evo e1).evo e2,fun F3 H3 e3=>?_⟩⟩⟩
    have e123:=(e1.trans e2).trans e3
    obtain ⟨l',vs,rfl,h1,h2⟩:=rep_lst (I.evo e123) ((rx.evo e2).evo e3)
    exact ⟨l',vs,rfl,h1,fun p hp=>k p F3 _ (e123.trans (Evo.side e123.hp hp)) ⟨⟨e123.back I.toDHp hp,(e123.hp.free hp).1⟩,_,upd_same,h2.cut l h⟩⟩
  · cases q
noncomputable def rSlS:V→Option Int→Option Int→Hp→VK→Prop:=fun x lo hi H Q=>∃ z,x=.str z∧z.length≤sizeLine∧Q (.str (Txt.slice z lo hi)) H
theorem part_of {v:Value} {o:Option Int} (h:IsPart v o):∃ l:Option (Int×Tok),v=partValue l∧l.map (·.1)=o:=by
  cases h with
  | none=>exact ⟨none,rfl,rfl⟩
  | int i t=>exact ⟨some (i,t),rfl,rfl⟩
theorem sl_str:SlR X rSlS:=by
  intro pins s σ H x v vl vu lo hi sl Q I rx hs pl pu h
  obtain ⟨z,rfl,hz,q⟩:=h
  have hle:=Txt.slice_le z lo hi
  obtain ⟨t,rfl⟩:=rx
  obtain ⟨l,rfl,e1⟩:=part_of pl
  obtain ⟨u,rfl,e2⟩:=part_of pu
  refine ⟨"str",_,PySem.F.slot_str_getitem.lookup,typeIs_str s z t,wpAny_getItem_str_slice (st:=none) hs rfl ?_⟩
  have e:slicePicked z l u none=Builtin.Str.strSliceIndices lo hi 1 z.length:=by unfold slicePicked; rw [e1,e2]; rfl
  unfold sliceMade
  rw [e]
  unfold Txt.slice at q hle
  show (if ((1:Int) == 1&&(Builtin.Str.strSliceIndices lo hi 1 z.length).length == z.length)=true then Made.val (.str z t) else Made.str ⟨((Builtin.Str.strSliceIndices lo hi 1 z.length).filterMap (z.cps[·]?)).toArray⟩).post _ _
  split
  · rename_i c
    rw [if_pos c] at q
    exact ⟨.str z,H,I,⟨t,rfl⟩,q⟩
  · rename_i c
    rw [if_neg c] at q hle
    exact ⟨Nat.le_trans hle hz,⟨.str _,H,I.tok _,⟨_,rfl⟩,q⟩⟩
noncomputable def slS (fe:DF→Option D) (fl fh:DF→Option (Option Int)):DF→Option D:=fun ρ=>match fe ρ with
  | some (.str x)=>if x.length≤16777216 then (fl ρ).bind fun l=>(fh ρ).map fun h=>.str (Txt.slice x l h) else none
  | _=>none
theorem pd_sliceS (he:PDR X e fe) (hl:PDB X lo fl) (hh:PDB X hi fh):PDE X (.Subscript e (.Slice lo hi none p2) pos) (slS fe fl fh):=(pe_slice sl_str he hl hh).imp fun σ H Q=>un7 fun P F ρ d q I k=>by
  unfold slS at q
  split at q
  · rename_i x q1
    split at q
    rotate_left
    · cases q
    rename_i hz
    cases q2:fl ρ with
    | none=>rw [q2] at q; cases q
    | some l=>
    rw [q2,Option.bind_some] at q
    cases q3:fh ρ with
    | none=>rw [q3] at q; cases q
    | some h=>
    rw [q3] at q
    cases q
    refine ⟨P,F,ρ,_,q1,I,fun y F1 H1 e1 rx=>⟨P,F1,ρ,l,q2,I.evo e1,fun F2 H2 e2=>⟨P,F2,ρ,h,q3,(I.evo e1).evo e2,fun F3 H3 e3=>?_⟩⟩⟩
    exact ⟨x,rep_str rx,by rw [sizeLine_eq]; exact hz,k _ F3 H3 ((e1.trans e2).trans e3) .str⟩
  · cases q
noncomputable def rCatTT (K:PySem.W.Frag):R2:=fun x y H Q=>∃ a b xs ys,x=.ref a∧y=.ref b∧SqT K H a xs∧SqT K H b ys∧xs.length + ys.length≤sizeLine ∧
  (xs=[]→Q (.ref b) H)∧(xs≠[]→ys=[]→Q (.ref a) H)∧(xs≠[]→ys≠[]→∀ p,H p=none→Q (.ref p) (upd H p (.tup (xs++ys))))
theorem op_catTT:OpR X (binaryOp .Add) (rCatTT X.K):=by
  intro pins s σ H x y v u Q I rx ry h
  obtain ⟨a,b,xs,ys,rfl,rfl,ha,hb,hz,q0,q1,q2⟩:=h
  by_cases hx:xs=[]
  · cases rx
    cases ry
    obtain ⟨its,r1,p1,_⟩:=I.tuple ha
    obtain ⟨its2,r2,p2,_⟩:=I.tuple hb
    have hi:its=[]:=r1.nil_iff.mpr hx
    obtain ⟨⟨cls,dd,data,sl⟩,ho,hc,n,hd⟩:=id p1
    obtain ⟨⟨cls2,dd2,data2,sl2⟩,ho2,hc2,n2,hd2⟩:=id p2
    simp only at hc hd hc2 hd2
    subst hc hd hc2 hd2
    exact concat_meets ⟨_,ho,rfl⟩ ⟨_,ho2,rfl⟩ noFill_tuple_add seq_tuple_add PySem.F.slot_tuple_add PySem.F.entry_tuple_add (PySem.F.args_tuple_add_2 _ _)
      (tuple_addW0 a b its.toArray its2.toArray n n2 dd dd2 sl sl2 (by simp [hi])) ⟨ho,ho2,⟨.ref b,H,I,rfl,q0 hx⟩⟩
  · exact op_catT pins s σ H _ _ v u Q I rx ry ⟨a,b,xs,ys,rfl,rfl,ha,hb,hx,hz,q1 hx,q2 hx⟩
noncomputable def addA:D→D→Option D
  | .int i,.int j=>some (.int (i + j))
  | .str x,.str y=>if x.length + y.length≤16777216 then some (.str (x++y)) else none
  | .lst xs,.lst ys=>if xs.length + ys.length≤16777216 then some (.lst (xs++ys)) else none
  | .tup xs,.tup ys=>if xs.length + ys.length≤16777216 then some (.tup (xs++ys)) else none
  | _,_=>none
theorem Reps.nil_iff {K:PySem.W.Frag} {H:Hp} {vs:List V} {ds:List D} (r:Reps K H vs ds):vs=[]↔ds=[]:=by
  cases r with
  | nil=>simp
  | cons _ _=>simp
theorem od_addA {K:PySem.W.Frag}:OpD2 K (fun x y H Q=>rAddD x y H Q∨(rCatL K x y H Q∨rCatTT K x y H Q)) addA:=by
  intro P F H ρ σ x y dx dy d Q hf I rx ry k
  unfold addA at hf
  split at hf
  · cases hf
    exact .inl (.inl ⟨_,_,rep_int rx,rep_int ry,k _ F H (Evo.refl I.toDHp) .int⟩)
  · split at hf
    · rename_i h
      cases hf
      exact .inl (.inr ⟨_,_,rep_str rx,rep_str ry,by rw [sizeLine_eq]; exact h,k _ F H (Evo.refl I.toDHp) .str⟩)
    · cases hf
  · split at hf
    · rename_i hz
      cases hf
      obtain ⟨l,vs,rfl,h1,h2⟩:=rep_lst I rx
      obtain ⟨l2,vs2,rfl,h3,h4⟩:=rep_lst I ry
      exact .inr (.inl ⟨l,l2,vs,vs2,rfl,rfl,h1,h3,by rw [h2.length,h4.length,sizeLine_eq]; exact hz,fun p hp=>k _ _ _ (Evo.laid I.toDHp hp) (.lst (SqL.of upd_same) ((h2.append h4).same (same_upd (I.toDHp.free hp).1)))⟩)
    · cases hf
  · split at hf
    · rename_i xs ys hz
      cases hf
      obtain ⟨l,vs,rfl,h1,h2⟩:=rep_tup I rx
      obtain ⟨l2,vs2,rfl,h3,h4⟩:=rep_tup I ry
      have tr:∀ {y:V} {ds:List D},RepS K H F y (.tup ds)→Rep K F y (.tup ds):=fun h=>by
        rcases h with h | ⟨_,ob,_,_,_,_,_,hfl,z⟩
        · exact h
        · cases ob <;> first | (cases z; done) | cases hfl
      refine .inr (.inr ⟨l,l2,vs,vs2,rfl,rfl,h1,h3,by rw [h2.length,h4.length,sizeLine_eq]; exact hz,fun z=>?_,fun _ z=>?_,fun _ _ p hp=>?_⟩)
      · have:xs=[]:=h2.nil_iff.mp z
        subst this
        exact k _ F H (Evo.refl I.toDHp) (tr ry)
      · have:ys=[]:=h4.nil_iff.mp z
        subst this
        rw [List.append_nil] at k
        exact k _ F H (Evo.refl I.toDHp) (tr rx)
      · exact k _ _ _ (Evo.laid I.toDHp hp) (.tup upd_same ((h2.append h4).same (same_upd (I.toDHp.free hp).1)))
    · cases hf
  · cases hf
theorem pd_addA (ha:PDR X a fa) (hb:PDR X b fb):PDE X (.BinOp a .Add b pos) (d2 addA fa fb):=pd_bin ((op_add.or op_add_str).or (op_catL.or op_catTT)) od_addA ha hb
noncomputable def isT:String→D→Option Bool
  | "int",.int _=>some true
  | "bool",.int _=>some false
  | "bool",.bl _=>some true
  | "str",.str _=>some true
  | "list",.lst _=>some true
  | "tuple",.tup _=>some true
  | _,_=>none
noncomputable def rIsi (K:PySem.W.Frag):List V→Hp→VK→Prop:=fun xs H Q=>∃ x T d b,xs=[x,.ty T]∧Rep K H x d∧isT T d=some b∧Q (.bl b) H
theorem call_isi:CallR X (.builtin "isinstance") (rIsi X.K):=by
  intro pins s σ H xs us Q I r h
  obtain ⟨x,T,d,b,rfl,hr,ht,q⟩:=h
  obtain ⟨u,w',rfl,r1,r2⟩:=vals2 r
  cases (show w'=Value.type T from r2)
  have f1:EP X pins σ Q (.bool b) s:=⟨.bl b,H,I,rfl,q⟩
  have f2:EP X pins σ Q (.bool b) { s with toks:=s.toks + 1 }:=⟨.bl b,H,I.tok _,rfl,q⟩
  unfold isT at ht
  split at ht <;> cases ht <;> cases hr
  · obtain ⟨t,rfl⟩:=(show ∃ t,u=Value.int _ t from r1); exact PySem.IsiPair.int_int f1
  · obtain ⟨t,rfl⟩:=(show ∃ t,u=Value.int _ t from r1); exact PySem.IsiPair.int_bool f2
  · cases (show u=Value.bool _ from r1); exact PySem.IsiPair.bool_bool f1
  · obtain ⟨t,rfl⟩:=(show ∃ t,u=Value.str _ t from r1); exact PySem.IsiPair.str_str f1
  · cases (show u=Value.ref _ from r1); rename_i hs _; obtain ⟨_,_,⟨o,n,e,c,_⟩,_⟩:=I.list hs; exact PySem.IsiPair.list_list e c f1
  · cases (show u=Value.ref _ from r1); rename_i hs _; obtain ⟨_,_,⟨o,e,c,_⟩,_⟩:=I.tuple (SqT.of hs); exact PySem.IsiPair.tuple_tuple e c f1
noncomputable def isTD (T:String) (d:D):Option D:=(isT T d).map .bl
theorem pd_isi {x:Str} {T:String} {p1:Pos} (hg:Gl X "isinstance") (hm:X.mg "isinstance"=none) (hgt:Gl X x) (hmt:X.mg x=none) (hv:bootBuiltins x=some (.type T)) (ha:PDN X a fa) (hn:x ≠ "__name__":=by decide) (hd:(x == ("__debug__":Str))=false:=by decide)
    (hs:starEach [a,.Name x p1] X.env=[(false,eval a X.env),(false,eval (.Name x p1) X.env)]:=by rfl) (hs2:starEach [.Name x p1] X.env=[(false,eval (.Name x p1) X.env)]:=by rfl) (hpl:(backTo pos (starEach [.Name x p1] X.env)).any (·.1)=false:=by rfl) :
    PDE X (.Call (.Name "isinstance" p) [a,.Name x p1] [] pos) (d1 (isTD T) fa):=
  (pe_callB call_isi hg hm boot_isinstance (pa_cons ha (pa_cons (pe_bltn (v:=.ty T) hgt hmt hv rfl hn hd) pa_nil hs2) (by rw [hs,hs2])) (by decide) (by decide) (by rw [hs,hs2]) hpl).imp fun σ H Q=>un7 fun P F ρ d hf I k=>by
    unfold d1 isTD at hf
    cases q:fa ρ with
    | none=>rw [q] at hf; cases hf
    | some dx=>
      rw [q,Option.bind_some] at hf
      cases q2:isT T dx with
      | none=>rw [q2] at hf; cases hf
      | some b=>
        rw [q2] at hf
        cases hf
        exact ⟨P,F,ρ,dx,q,I,fun y F1 H1 e1 r1=>⟨y,T,dx,b,rfl,r1,q2,k _ F1 H1 e1 .bl⟩⟩
end
section
variable {X:Cx} {pins:List (Addr×Obj)} {σ:St} {H:Hp} {s:Shared}
open Classical in
open Classical in
end
section
variable {X:Cx} {e a b c o:Expr} {es:List Expr} {pos p apos cpos:Pos} {fe fa fb:DF→Option D}
end
section
variable {X:Cx} {tg e a b c o l:Expr} {es:List Expr} {pos p apos cpos spos:Pos} {fe fa fb fc:DF→Option D}
noncomputable def negD:D→Option D
  | .int i=>some (.int (-i))
  | _=>none
theorem pd_neg (h:PDE X a fa):PDE X (.UnaryOp .USub a pos) (d1 negD fa):=(pe_un un_neg h).imp fun σ H Q=>un7 fun P F ρ d hf I k=>by
  unfold d1 at hf
  cases q:fa ρ with
  | none=>rw [q] at hf; cases hf
  | some dx=>
    rw [q,Option.bind_some] at hf
    cases dx with
    | int i=>
      cases hf
      refine ⟨P,F,ρ,_,q,I,fun v F1 H1 e1 r1=>?_⟩
      cases r1
      exact ⟨i,rfl,k _ F1 H1 e1 .int⟩
    | _=>cases hf
theorem pd_gint {x:Str} {i:Int} {t:Tok} (hg:Gl X x) (hm:X.mg x=some (.int i t)) (hd:(x == ("__debug__":Str))=false:=by decide):PDE X (.Name x pos) (fun _=>some (.int i)):=pde_c (pe_glob hg hm (v:=.int i) ⟨t,rfl⟩ hd) fun _=>.int
noncomputable def maxD:D→D→Option D
  | .int i,.int j=>some (.int (if j > i then j else i))
  | _,_=>none
noncomputable def minD:D→D→Option D
  | .int i,.int j=>some (.int (if j < i then j else i))
  | _,_=>none
theorem tCB_n2 {K:PySem.W.Frag} {r:List V→Hp→VK→Prop} {f:D→D→Option D} (ho:OpN2 K (fun x y=>r [x,y]) f):∀ σ H Q,tD K (d2 f fa fb) σ H Q→tCB r (tCons (tN K fa) (tCons (tN K fb) tNil)) σ H Q:=fun σ H Q h=>tOp_n2 ho σ H Q h
theorem on_max {K:PySem.W.Frag}:OpN2 K (fun x y H Q=>∃ i j,[x,y]=[V.int i,.int j]∧Q (.int (if j > i then j else i)) H) maxD:=by
  intro P F H x y dx dy d Q hf hp rx ry k
  unfold maxD at hf
  split at hf
  · cases hf; cases rx; cases ry; exact ⟨_,_,rfl,k _ F H (Evo.refl hp) .int⟩
  · cases hf
theorem on_min {K:PySem.W.Frag}:OpN2 K (fun x y H Q=>∃ i j,[x,y]=[V.int i,.int j]∧Q (.int (if j < i then j else i)) H) minD:=by
  intro P F H x y dx dy d Q hf hp rx ry k
  unfold minD at hf
  split at hf
  · cases hf; cases rx; cases ry; exact ⟨_,_,rfl,k _ F H (Evo.refl hp) .int⟩
  · cases hf
theorem pd_max2 (hc:X.calm=true) (hg:Gl X "max") (hm:X.mg "max"=none) (ha:PDN X a fa) (hb:PDN X b fb) (hs:starEach [a,b] X.env=[(false,eval a X.env),(false,eval b X.env)]:=by rfl) (hs2:starEach [b] X.env=[(false,eval b X.env)]:=by rfl) (hpl:(backTo pos (starEach [b] X.env)).any (·.1)=false:=by rfl) :
    PDE X (.Call (.Name "max" p) [a,b] [] pos) (d2 maxD fa fb):=
  (pe_callB (call_max2 hc) hg hm boot_max (pa_cons ha (pa_cons hb pa_nil hs2) (by rw [hs,hs2])) (by decide) (by decide) (by rw [hs,hs2]) hpl).imp (tCB_n2 on_max)
theorem pd_min2 (hc:X.calm=true) (hg:Gl X "min") (hm:X.mg "min"=none) (ha:PDN X a fa) (hb:PDN X b fb) (hs:starEach [a,b] X.env=[(false,eval a X.env),(false,eval b X.env)]:=by rfl) (hs2:starEach [b] X.env=[(false,eval b X.env)]:=by rfl) (hpl:(backTo pos (starEach [b] X.env)).any (·.1)=false:=by rfl) :
    PDE X (.Call (.Name "min" p) [a,b] [] pos) (d2 minD fa fb):=
  (pe_callB (call_min2 hc) hg hm boot_min (pa_cons ha (pa_cons hb pa_nil hs2) (by rw [hs,hs2])) (by decide) (by decide) (by rw [hs,hs2]) hpl).imp (tCB_n2 on_min)
noncomputable def isBl:D→Bool
  | .bl _=>true
  | _=>false
noncomputable def trD:D→Bool
  | .bl b=>b
  | _=>false
noncomputable def allD:D→Option D
  | .lst ds=>if ds.all isBl=true then some (.bl (ds.all trD)) else none
  | _=>none
noncomputable def rAll (K:PySem.W.Frag):List V→Hp→VK→Prop:=fun xs H Q=>∃ l vs ds,xs=[.ref l]∧SqL K H l vs∧Reps K H vs ds∧ds.all isBl=true∧Q (.bl (ds.all trD)) H
theorem all_range {ds:List D}:(List.range ds.length).all (fun i=>trD (ds.getD i .non))=ds.all trD:=by
  rw [Bool.eq_iff_iff,List.all_eq_true,List.all_eq_true]
  constructor
  · intro h d hd
    obtain ⟨i,hi,e⟩:=List.getElem_of_mem hd
    have:=h i (List.mem_range.mpr hi)
    rw [List.getD_eq_getElem?_getD,List.getElem?_eq_getElem hi,e] at this
    exact this
  · intro h i hi
    have hi:=List.mem_range.mp hi
    rw [List.getD_eq_getElem?_getD,List.getElem?_eq_getElem hi]
    exact h _ (List.getElem_mem hi)
theorem call_allD (hc:X.calm=true):CallR X (.builtin "all") (rAll X.K):=by
  intro pins s σ H xs us Q I r h
  obtain ⟨l,vs,ds,rfl,hq,hr,hb,q⟩:=h
  obtain ⟨u,rfl,ru⟩:=vals1 r
  cases ru
  obtain ⟨its,rv,pl,hz⟩:=I.list hq
  have ho:=pl.isList
  have l1:=hr.length
  have l2:=rv.length
  refine call_all_walk (wpAny_pyIter_list ho ?_)
  have hlt:l < s.heap.objs.size:=by obtain ⟨o,e,_⟩:=ho; exact Heap.lt_size e
  refine ⟨s.heap.objs.size,[s.heap.objs.size,l],[s.heap.objs.size],its.toArray.size,_,_,fun i=>trD (ds.getD i .non),rfl,Walks.list (by show X.A.in1.handled=none; exact I.ok.hd hc) s.heap.objs.size l (Nat.ne_of_lt hlt) its.toArray,⟨⟨_,Heap.get?_push_size _ rfl,rfl,rfl⟩,ho.at fun o e=>Heap.get?_push_of_some _ e⟩,fun i v s' Q' E' hv hq'=>?_,fun h' tk k=>?_⟩
  · have hv:its[i]?=some v:=by simpa using hv
    have hi:i < its.length:=(List.getElem?_eq_some_iff.mp hv).1
    have hid:i < ds.length:=by omega
    obtain ⟨w',a1,a2⟩:=hr.get (List.getElem?_eq_getElem hid)
    obtain ⟨u',a3,a4⟩:=rv.get a1
    rw [hv] at a3
    cases a3
    have hbd:=List.all_eq_true.mp hb _ (List.getElem_mem hid)
    have eg:ds.getD i .non=ds[i]:=by rw [List.getD_eq_getElem?_getD,List.getElem?_eq_getElem hid]; rfl
    have hq':Q' (trD (ds.getD i .non)) s':=hq'
    rw [eg] at hq'
    generalize ds[i]=d at *
    cases d with
    | bl b=>cases a2; cases (show v=Value.bool _ from a4); exact wpAny_truthy_bool hq'
    | _=>cases hbd
  · have e:its.toArray.size=ds.length:=by rw [List.size_toArray]; omega
    rw [e,all_range]
    refine ⟨.bl _,H,I.kept (t':=tk) fun b o e=>k b o (fun z=>?_) (Heap.get?_push_of_some _ e),rfl,q⟩
    have z:b=s.heap.objs.size:=by simpa using z
    rw [z] at e
    exact absurd (Heap.lt_size e) (Nat.lt_irrefl _)
theorem pd_all (hc:X.calm=true) (hg:Gl X "all") (hm:X.mg "all"=none) (ha:PDN X e fa) (hs:starEach [e] X.env=[(false,eval e X.env)]:=by rfl) (hpl:(backTo pos (starEach [] X.env)).any (·.1)=false:=by rfl) :
    PDE X (.Call (.Name "all" p) [e] [] pos) (d1 allD fa):=
  (pe_callB (call_allD hc) hg hm boot_all (pa_cons ha pa_nil hs) (by decide) (by decide) hs hpl).imp (tCB_n1 fun P F H x dx d Q hf hp rx k=>by
    cases dx with
    | lst ds=>
      have hf:(if ds.all isBl=true then some (D.bl (ds.all trD)) else none)=some d:=hf
      split at hf
      · rename_i hb
        cases hf
        cases rx with | lst h1 h2=>exact ⟨_,_,ds,rfl,h1,h2,hb,k _ F H (Evo.refl hp) .bl⟩
      · cases hf
    | _=>cases hf)
noncomputable def Its (x:Str):It:=⟨fun i _=>i < x.cps.size,fun i H v H'=>H'=H∧v=.str ⟨#[x.cps.getD i 0]⟩,fun i _=>x.cps.size≤i⟩
theorem turn_str {P:Program} {w:World} {K:PySem.W.Frag} {tg:Expr} (it:Addr) (x:Str) (t:Tok) (ty:String) (hty:["enumerate", "zip", "dict_itemiterator", "dict_reverseitemiterator", "odict_iterator", "itertools.zip_longest", "itertools.pairwise"].contains ty=false) (W:∀ A:Around,A.handled=none→Walks P w A it [it] [it] x.cps.size (SignAt x) (fun i h=>h.IsStrIter it ty x t i))
    (hself:∀ (A:Around) (i:Nat) (s:Shared) (Q:Value→Shared→Prop) (E:Value→Shared→Prop),s.heap.IsStrIter it ty x t i→Q (.ref it) s→wpAny (model P w) A (pyIter (.ref it)) Q E s):Turn P w K tg (Its x) [it] it (fun i h=>h.IsStrIter it ty x t i∧i≤x.cps.size) where
  mem:=by simp
  obj:=fun i h st b hb=>by
    have e:b=it:=by simpa using hb
    subst e
    obtain ⟨⟨o,e,c,d⟩,_⟩:=st
    exact ⟨o,e,fun v z=>by rw [d] at z; cases z⟩
  keep:=fun i h h' st k=>by obtain ⟨⟨o,e,r⟩,hl⟩:=st; exact ⟨⟨o,k it (by simp) o e,r⟩,hl⟩
  item:=by
    intro X hP hw hK hc i pins s σ H E I hf st hg
    subst hP hw hK
    obtain ⟨f0,f1,f2,f3,f4,f5⟩:=hf it (by simp)
    have hg:i < x.cps.size:=hg
    refine (W X.A (I.ok.hd hc)).item i s _ _ hg st.1 fun v h' tk hv st' kk=>?_
    obtain ⟨c,u,hcs,rfl⟩:=hv
    have I1:Inv X pins σ H { s with heap:=h',toks:=tk }:=I.turned (fun b o hb e=>kk b o (by simpa using hb) e) f0 f1 f3 f4 f5
    obtain ⟨o,ho,hoc,hod⟩:=id st'
    have ec:x.cps.getD i 0=c:=by simp [Array.getD_eq_getD_getElem?,hcs]
    refine ⟨_,rfl,go_of (s:={ s with heap:=h',toks:=tk }) (n:=ty) ho hoc hod hty ⟨.str ⟨#[c]⟩,H,I1,⟨u,rfl⟩,⟨rfl,by rw [ec]⟩,⟨st',hg⟩,fun b hb=>(hf b hb).1⟩⟩
  done:=by
    intro X hP hw hK hc i pins s σ H E I hf st hg
    subst hP hw hK
    obtain ⟨f0,f1,f2,f3,f4,f5⟩:=hf it (by simp)
    have hg:x.cps.size≤i:=hg
    have hi:i=x.cps.size:=Nat.le_antisymm st.2 hg
    subst hi
    exact (W X.A (I.ok.hd hc)).done s _ _ st.1 fun h' tk kk=>⟨rfl,I.turned (fun b o hb e=>kk b o (by simpa using hb) e) f0 f1 f3 f4 f5⟩
  self:=fun A i s Q E st h=>hself A i s Q E st.1 h
noncomputable def iStr (tl:TE):TI:=fun σ H R=>tl σ H fun x H1=>∃ z,x=.str z∧R (Its z) H1
theorem pi_str {tl:TE} (hl:PE X l tl):PI X tg l (iStr tl):=by
  intro pins s σ H R I h
  refine thnG (hl pins s σ H _ I h) fun v s1 x H1 I1 r1 hh_=>?_
  obtain ⟨z,e,q⟩:=hh_
  subst e
  obtain ⟨t,rfl⟩:=r1
  have fin:∀ (ob:Obj) (ty:String),["enumerate", "zip", "dict_itemiterator", "dict_reverseitemiterator", "odict_iterator", "itertools.zip_longest", "itertools.pairwise"].contains ty=false→(∀ A:Around,A.handled=none→Walks X.prog X.w A s1.heap.objs.size [s1.heap.objs.size] [s1.heap.objs.size] z.cps.size (SignAt z) (fun i h=>h.IsStrIter s1.heap.objs.size ty z t i))→
      (∀ (A:Around) (i:Nat) (s:Shared) (Q:Value→Shared→Prop) (E:Value→Shared→Prop),s.heap.IsStrIter s1.heap.objs.size ty z t i→Q (.ref s1.heap.objs.size) s→wpAny (model X.prog X.w) A (pyIter (.ref s1.heap.objs.size)) Q E s)→
      (s1.heap.push ob).IsStrIter s1.heap.objs.size ty z t 0→PIE X pins σ tg R (.ref s1.heap.objs.size) { s1 with heap:=s1.heap.push ob }:=fun ob ty h1 h2 h3 h4=>by
    refine ⟨s1.heap.objs.size,[s1.heap.objs.size],_,_,H1,rfl,I1.kept (t':=s1.toks) fun b o e=>Heap.get?_push_of_some _ e,turn_str _ z t ty h1 h2 h3,⟨h4,Nat.zero_le _⟩,fun b hb=>?_,q⟩
    have e:b=s1.heap.objs.size:=by simpa using hb
    subst e
    exact I1.fpOk (Nat.le_refl _) (I1.hok.fresh (Nat.le_refl _))
  cases ha:z.cps.all (· < 128)
  · exact wpAny_pyIter_wide ha (fin _ "str_iterator" (by decide) (fun A' hA=>Walks.strWide hA _ z t) (fun A i s Q E st h=>wpAny_pyIter_striter_wide st h) ⟨_,Heap.get?_push_size _ rfl,rfl,rfl⟩)
  · exact wpAny_pyIter_ascii ha (fin _ "str_ascii_iterator" (by decide) (fun A' hA=>Walks.strAscii hA _ z t) (fun A i s Q E st h=>wpAny_pyIter_striter_ascii st h) ⟨_,Heap.get?_push_size _ rfl,rfl,rfl⟩)
noncomputable def signs (x:Str):List D:=x.cps.toList.map fun c=>.str ⟨#[c]⟩
noncomputable def strOf (f:DF→Option D):DF→Option (List D):=fun ρ=>match f ρ with
  | some (.str x)=>some (signs x)
  | _=>none
theorem pdi_str (h:PDE X l fa):PDI X tg l (strOf fa):=PI.imp (pi_str h) fun σ H R=>un7 fun P F ρ ds hf I k=>by
  unfold strOf at hf
  split at hf
  · rename_i x q
    cases hf
    refine ⟨P,F,ρ,_,q,I,fun v F1 H1 e1 r1=>?_⟩
    cases r1
    refine ⟨x,rfl,k _ F1 H1 e1 fun F' H' e hp i=>⟨fun d hd=>?_,fun hl=>?_⟩⟩
    · unfold signs at hd
      rw [List.getElem?_map] at hd
      cases qc:x.cps.toList[i]? with
      | none=>rw [qc] at hd; cases hd
      | some c=>
        rw [qc] at hd
        cases hd
        have hi:i < x.cps.size:=by have:=(List.getElem?_eq_some_iff.mp qc).1; simpa using this
        refine ⟨hi,fun y H2 hy=>?_⟩
        obtain ⟨rfl,rfl⟩:=hy
        have ec:x.cps.getD i 0=c:=by
          have:x.cps[i]?=some c:=by rw [← Array.getElem?_toList]; exact qc
          simp [Array.getD_eq_getD_getElem?,this]
        rw [ec]
        exact ⟨F',Evo.refl hp,.str⟩
    · unfold signs at hl
      rw [List.length_map,Array.length_toList] at hl
      exact hl
  · cases hf
noncomputable def isStr:D→Bool
  | .str _=>true
  | _=>false
noncomputable def txt:D→Str
  | .str x=>x
  | _=>⟨#[]⟩
noncomputable def joinOk (x:Str) (ds:List D):Bool:=ds.all isStr&&decide (((ds.map txt).map (·.length)).sum + (ds.map txt).length * x.length≤16777216)
noncomputable def joinM:D→D→Option D
  | .str x,.lst ds=>if joinOk x ds=true then some (.str (Txt.join x (ds.map txt))) else none
  | _,_=>none
noncomputable def rJoin (K:PySem.W.Frag):V→List V→Hp→VK→Prop:=fun x vs H Q=>∃ z l xs ds,x=.str z∧vs=[.ref l]∧SqL K H l xs∧Reps K H xs ds∧joinOk z ds=true∧Q (.str (Txt.join z (ds.map txt))) H
theorem strs_are {K:PySem.W.Frag} {H:Hp} {vs:List V} {ds:List D} {us:List Value} (h:Reps K H vs ds):Vals vs us→ds.all isStr=true→StrsAre us (ds.map txt):=
  Reps.ind (M:=fun vs ds=>∀ us:List Value,Vals vs us→ds.all isStr=true→StrsAre us (ds.map txt)) (fun us r _=>by cases r; exact .nil) (fun {v d vs ds} h _ ih us r0 ha=>by
    cases r0 with
    | cons r t=>
      rw [List.all_cons,Bool.and_eq_true] at ha
      cases d with
      | str x=>
        cases h
        obtain ⟨tk,rfl⟩:=(show ∃ t,_=Value.str _ t from r)
        exact .cons _ _ (ih _ t ha.2)
      | _=>cases ha.1) h us
theorem mt_join:MtR X "str.join" (rJoin X.K):=by
  intro pins s σ H x vs v us Q I rx rvv h
  obtain ⟨z,l,xs,ds,rfl,rfl,hq,r,ok,q⟩:=h
  obtain ⟨t,rfl⟩:=rx
  obtain ⟨u,rfl,ru⟩:=rvv.one
  cases ru
  obtain ⟨its,rv,pl,hz⟩:=I.list hq
  unfold joinOk at ok
  rw [Bool.and_eq_true,decide_eq_true_eq] at ok
  exact join_list pl.isList (strs_are r (by simpa using rv) ok.1) ok.2 fun t' k=>⟨.str _,H,I.tok _,⟨_,rfl⟩,q⟩
theorem pd_join (ho:PDN X o fa) (ha:PDN X e fb) (hbase:attributeBase o "join" X.env (eval o X.env)=eval o X.env:=by rfl)
    (hfew:((backTo cpos (starEach [e] X.env)).all (fun x=>!x.1)&&(backToKw cpos (keywordEach [] X.env)).all (fun x=>x.1.isSome)
      && decide (([e]:List Expr).length + ([]:List Keyword).length + (if ([]:List Keyword).isEmpty then 0 else 1) < 30))=true:=by rfl)
    (hline:(apos.endLine == cpos.line)=true:=by rfl) (hs:starEach [e] X.env=[(false,eval e X.env)]:=by rfl) :
    PDE X (.Call (.Attribute o "join" apos) [e] [] cpos) (d2 joinM fa fb):=
  (pe_bm PySem.F.plainAttrs_str PySem.F.slot_str_join PySem.F.type_str_join mt_join ho (pa_cons ha pa_nil hs) hbase hfew hline hs rfl).imp fun σ H Q=>un7 fun P F ρ d hf I k=>by
    unfold d2 at hf
    cases ha:fa ρ with
    | none=>rw [ha] at hf; cases hf
    | some dx=>
      cases hb:fb ρ with
      | none=>rw [ha,Option.bind_some,hb] at hf; cases hf
      | some dy=>
        rw [ha,Option.bind_some,hb,Option.bind_some] at hf
        cases dx with
        | str x=>
          cases dy with
          | lst ds=>
            have hf:(if joinOk x ds=true then some (D.str (Txt.join x (ds.map txt))) else none)=some d:=hf
            split at hf
            · rename_i ok
              cases hf
              refine ⟨P,F,ρ,_,ha,I,fun v F1 H1 e1 rx=>?_⟩
              cases rx
              refine ⟨rfl,P,F1,ρ,_,hb,I.evo e1,fun y F2 H2 e2 ry=>?_⟩
              cases ry with
              | lst h1 h2=>exact ⟨x,_,_,ds,rfl,rfl,h1,h2,ok,k _ F2 H2 (e1.trans e2) .str⟩
            · cases hf
          | _=>cases hf
        | _=>cases hf
end
section
variable {X:Cx} {tg e a b c o l r:Expr} {es:List Expr} {pos p p' apos cpos spos apos' cpos':Pos} {f fe fa fb fc:DF→Option D}
end
section
variable {X:Cx} {tg a b c o i e f:Expr} {pos pos' apos cpos p:Pos} {fd fk fx fv fa fb fc:DF→Option D}
noncomputable def Itr3 (lo c:Int) (n:Nat):It:=⟨fun i _=>i < n,fun i H x H'=>H'=H∧x=.int (lo + i * c),fun i _=>n≤i⟩
theorem turn_range3 {P:Program} {w:World} {K:PySem.W.Frag} {tg:Expr} (it:Addr) (lo c:Int) (n:Nat):Turn P w K tg (Itr3 lo c n) [it] it (fun i h=>IsRangeIter h it (lo + (i:Nat) * c) ((n:Int) - (i:Nat)) c) where
  mem:=by simp
  obj:=fun i h st b hb=>by
    have e:b=it:=by simpa using hb
    subst e
    exact ⟨_,st,fun v z=>nomatch (show Data.fields _=Data.cell v from z)⟩
  keep:=fun i h h' st k=>k it (by simp) _ st
  item:=by
    intro X hP hw hK hc i pins s σ H E I hf st hg
    subst hP hw hK
    obtain ⟨f0,f1,f2,f3,f4,f5⟩:=hf it (by simp)
    refine (Walks.range (prog:=X.prog) (w:=X.w) (I.ok.hd hc) it lo c n).item i s _ _ hg st fun v h' tk hv st' kk=>?_
    obtain ⟨t,rfl⟩:=hv
    have I1:Inv X pins σ H { s with heap:=h',toks:=tk }:=I.turned (fun b o hb e=>kk b o (by simpa using hb) e) f0 f1 f3 f4 f5
    exact ⟨_,rfl,go_of (s:={ s with heap:=h',toks:=tk }) (n := "range_iterator") st' rfl rfl (by decide) ⟨.int (lo + i * c),H,I1,⟨t,rfl⟩,⟨rfl,rfl⟩,st',fun b hb=>(hf b hb).1⟩⟩
  done:=by
    intro X hP hw hK hc i pins s σ H E I hf st hg
    subst hP hw hK
    obtain ⟨f0,f1,f2,f3,f4,f5⟩:=hf it (by simp)
    exact wpAny_pyNext_range_end (I.ok.hd hc) st (by have:n≤i:=hg; omega) fun h' eb=>⟨rfl,I.turned (t':=s.toks) (fun b o hb e=>eb b o hb e) f0 f1 f3 f4 f5⟩
  self:=fun _ _ _ _ _ st h=>wpAny_pyIter_rangeiter st h
noncomputable def iRng3 (ta:TA):TI:=fun σ H R=>ta σ H fun vs H1=>∃ i j c:Int,vs=[.int i,.int j,.int c]∧0 < c∧c < 1073741824∧Builtin.Range.small i j c=true∧R (Itr3 i c (Builtin.Range.rangeSize i j c).toNat) H1
theorem pi_range3 {ta:TA} (hg:Gl X "range") (hm:X.mg "range"=none) (ha:PA X [a,b,c] ta) (hs:starEach [a,b,c] X.env=[(false,eval a X.env),(false,eval b X.env),(false,eval c X.env)]:=by rfl) (hs2:starEach [b,c] X.env=[(false,eval b X.env),(false,eval c X.env)]:=by rfl) (hs3:(backTo pos (starEach [b,c] X.env)).any (·.1)=false:=by rfl) :
    PI X tg (.Call (.Name "range" p) [a,b,c] [] pos) (iRng3 ta):=by
  intro pins s σ H R I h
  refine Call_ (ld_blt I hg hm boot_range (PyProof.Rows.callWith_type1 (thnG (ha pos pins s σ H _ I h) fun us s1 vs H1 I1 r1 q1=>?_) (by rw [hs,hs2]) hs3))
  obtain ⟨i,j,c',e,h1,h2,h3,q⟩:=q1
  subst e
  cases r1 with
  | cons ra rr=>
  cases rr with
  | cons rb rr=>
  cases rr with
  | cons rc rr=>
  cases rr
  obtain ⟨t,rfl⟩:=ra
  obtain ⟨t',rfl⟩:=rb
  obtain ⟨t'',rfl⟩:=rc
  refine call_range_3 (by omega) ?_ (.inl (PyProof.noPylong_small (by omega)))
  have I2:Inv X pins σ H1 { s1 with heap:=s1.heap.push { cls:=.type "range",data:=.fields #[.int i t,.int j t',.int c' t''] },toks:=s1.toks }:=I1.kept fun b o e=>Heap.get?_push_of_some _ e
  refine wpAny_pyIter_range (IsRange.new ..) h3 ?_
  refine ⟨_,[_],_,_,H1,rfl,I2.kept (t':=s1.toks) fun b o e=>Heap.get?_push_of_some _ e,turn_range3 _ i c' (Builtin.Range.rangeSize i j c').toNat,?_,fun b hb=>?_,q⟩
  · have e1:i + ((0:Nat):Int) * c'=i:=by simp
    have e2:(((Builtin.Range.rangeSize i j c').toNat:Nat):Int) - ((0:Nat):Int)=Builtin.Range.rangeSize i j c':=by rw [← rangeSize_toNat]; simp
    show IsRangeIter _ _ (i + ((0:Nat):Int) * c') ((((Builtin.Range.rangeSize i j c').toNat:Nat):Int) - ((0:Nat):Int)) c'
    rw [e1,e2]
    exact Heap.get?_push_size _ rfl
  · have e:b=(s1.heap.push { cls:=.type "range",data:=.fields #[.int i t,.int j t',.int c' t''] }).objs.size:=by simpa using hb
    subst e
    exact I2.fpOk (Nat.le_refl _) (I2.hok.fresh (Nat.le_refl _))
noncomputable def rangeL3 (lo c:Int) (n:Nat):List D:=(List.range n).map fun i:Nat=>.int (lo + (i:Int) * c)
noncomputable def rng3 (fa fb fc:DF→Option D):DF→Option (List D):=fun ρ=>match fa ρ,fb ρ,fc ρ with
  | some (.int i),some (.int j),some (.int c)=>if 0 < c∧c < 1073741824∧Builtin.Range.small i j c=true then some (rangeL3 i c (Builtin.Range.rangeSize i j c).toNat) else none
  | _,_,_=>none
theorem pdi_range3 (hg:Gl X "range") (hm:X.mg "range"=none) (ha:PDE X a fa) (hb:PDE X b fb) (hc:PDE X c fc) (hs:starEach [a,b,c] X.env=[(false,eval a X.env),(false,eval b X.env),(false,eval c X.env)]:=by rfl) (hs2:starEach [b,c] X.env=[(false,eval b X.env),(false,eval c X.env)]:=by rfl) (hs3:starEach [c] X.env=[(false,eval c X.env)]:=by rfl) (hs4:(backTo pos (starEach [b,c] X.env)).any (·.1)=false:=by rfl) :
    PDI X tg (.Call (.Name "range" p) [a,b,c] [] pos) (rng3 fa fb fc):=
  PI.imp (pi_range3 hg hm (pa_cons ha (pa_cons hb (pa_cons hc pa_nil hs3) (by rw [hs2,hs3])) (by rw [hs,hs2])) hs hs2 hs4) fun σ H R=>un7 fun P F ρ ds hf I k=>by
    unfold rng3 at hf
    split at hf
    · rename_i i j c' q1 q2 q3
      split at hf
      · rename_i hj
        cases hf
        refine ⟨P,F,ρ,_,q1,I,fun v F1 H1 e1 r1=>⟨P,F1,ρ,_,q2,I.evo e1,fun v2 F2 H2 e2 r2=>⟨P,F2,ρ,_,q3,(I.evo e1).evo e2,fun v3 F3 H3 e3 r3=>?_⟩⟩⟩
        cases r1
        cases r2
        cases r3
        refine ⟨i,j,c',rfl,hj.1,hj.2.1,hj.2.2,k _ F3 H3 ((e1.trans e2).trans e3) fun F' H' e hp n=>⟨fun d hd=>?_,fun hl=>?_⟩⟩
        · unfold rangeL3 at hd
          rw [List.getElem?_map] at hd
          by_cases hn:n < (Builtin.Range.rangeSize i j c').toNat
          · rw [List.getElem?_range hn,Option.map_some] at hd
            cases hd
            refine ⟨hn,fun x H2 hy=>?_⟩
            obtain ⟨rfl,rfl⟩:=hy
            exact ⟨F',Evo.refl hp,.int⟩
          · rw [List.getElem?_eq_none (by rw [List.length_range]; omega)] at hd
            cases hd
        · unfold rangeL3 at hl
          rw [List.length_map,List.length_range] at hl
          exact hl
      · cases hf
    · cases hf
end
theorem Room.h64 {k:Nat} {A:Around} (r:Room k A):A.units + 64 < cLine:=by have:=r.un; omega
noncomputable def bsOk (sc0 scope:Scope):Bool:=scope.kind == .function&&(scope.names.map (·.1)).Nodup&&(scope.names.all fun x=>x.2 != .free||(sc0.names.lookup x.1 == some .cell||sc0.names.lookup x.1 == some .free))
theorem bs_mk {X:Cx} {scope:Scope} (sc0:Scope) (e:X.env.scope=sc0) (h:bsOk sc0 scope=true):BlkScope X scope:=by
  unfold bsOk at h
  simp only [Bool.and_eq_true,decide_eq_true_eq] at h
  obtain ⟨⟨h1,h2⟩,h3⟩:=h
  refine ⟨by simpa using h1,h2,fun x hx hk=>?_⟩
  have:=List.all_eq_true.mp h3 x hx
  rw [hk] at this
  have e2:X.env.kindOf x.1=sc0.names.lookup x.1:=by show X.env.scope.names.lookup x.1=_; rw [e]
  rw [e2]
  simpa using this
noncomputable def cpOk (N0:List Str) (scope:Scope) (N:List Str) (own:Nat) (ix:List Nat):Bool:=
  decide (N.length=own + ix.length)&&(List.range ix.length).all fun i=>match N[own + i]?,ix[i]? with
    | some x,some j=>N0[j]? == some x&&scope.names.lookup x == some .free
    | _,_=>true
theorem cp_mk {X:Cx} {scope:Scope} {N:List Str} {own:Nat} {ix:List Nat} (N0:List Str) (e:X.N=N0) (h:cpOk N0 scope N own ix=true):Caps X scope N own ix:=by
  unfold cpOk at h
  rw [Bool.and_eq_true,decide_eq_true_eq] at h
  refine ⟨h.1,fun i j x h1 h2=>?_⟩
  have hi:i < ix.length:=(List.getElem?_eq_some_iff.mp h2).1
  have:=List.all_eq_true.mp h.2 i (List.mem_range.mpr hi)
  rw [h1,h2] at this
  simp only [Bool.and_eq_true,beq_iff_eq] at this
  rw [e]
  exact this
section
variable {X:Cx}
theorem pifs0:PIfs X [] (tB' X.K dYes):=fun pins s σ H Q I hh_=>by
  obtain ⟨P,F,ρ,b,hf,J,k⟩:=hh_
  cases hf
  exact pifs_nil pins s σ H Q I (k F H (Evo.refl J.toDHp))
end
theorem his_mk {is:List Nat} {own:Nat} (h:(is.all fun j=>decide (j < own))=true):∀ j∈is,j < own:=fun j m=>of_decide_eq_true (List.all_eq_true.mp h j m)
section
variable {X:Cx} {tg iter elt:Expr} {ifs:List Expr} {scope:Scope} {pos:Pos} {N:List Str} {own:Nat} {ix is:List Nat} {f:DF→Option (List D)} {st:D→DF→Option DF} {c:DF→Option Bool} {e:DF→Option D}
theorem pd_setCompO {i:Nat} {y:Str} {py spos:Pos} (hN:X.N.Nodup) (hiN:X.N[i]?=some y) (hx:Loc X.env.scope y) (hcalm:X.calm=true) (b:BlkScope X scope) (cp:Caps X scope N own ix) (his:∀ j∈is,j < own) (hi:PDI X tg iter f)
    (hg:∀ s H fp pins,PDG (blk X scope N s H fp pins) tg is st) (hc:∀ s H fp pins,PIfs (blk X scope N s H fp pins) ifs (tB' X.K c)) (he:∀ s H fp pins,PDE (blk X scope N s H fp pins) elt e)
    (hnames:∀ y∈scope.names,y.2=.local→scope.names.lookup y.1=some .local)
    (hsw:swapsWith (.ListComp elt [⟨tg,iter,ifs,0⟩] scope pos) (some (.Name y py)) spos.line X.env=pure true:=by rfl)
    (hs:∀ x,foldedSetIterable iter X.env x=pure x:=by intro _; rfl)
    (hf:X.fn y=true∨X.env.scope.names.lookup y=some .local:=by first | exact .inl rfl | exact .inr rfl | assumption) :
    PD1 X (.Assign [.Name y py] (.ListComp elt [⟨tg,iter,ifs,0⟩] scope pos) spos) (dSetO i (asL (dComp own ix f st c e))):=
  PS.imp (ps_setComp (g:=tG X.K is st) (tc:=tB' X.K c) (te:=tD X.K e) hcalm hN hiN hx b cp hi hg hc he hsw hnames hs hf) fun E σ H q=>tO_comp his σ H _ (tAsg_o E σ H q)
end
noncomputable def mMAt (n p:Nat) (g:DF→Option RES) (o:OD) (xs:List DV) (q:OD×D):Prop:=xs.length + 1=p∧q.1.flat=true∧∀ a,∃ r,g (startD n p (.own o (some a)::xs))=some r∧endsM a q.1 q.2 r
noncomputable def mMof (n p:Nat) (g:DF→Option RES) (o:OD) (xs:List DV):Option (OD×D):=
  open Classical in if h:∃ q,mMAt n p g o xs q then some h.choose else none
theorem mMof_ok {n p:Nat} {g:DF→Option RES}:∀ a o xs o' d,mMof n p g o xs=some (o',d)→xs.length + 1=p∧o'.flat=true∧∃ r,g (startD n p (.own o (some a)::xs))=some r∧endsM a o' d r:=by
  intro a o xs o' d h
  unfold mMof at h
  split at h
  · rename_i hq
    obtain ⟨h1,h2,h3⟩:=hq.choose_spec
    rw [Option.some.inj h] at h2 h3
    exact ⟨h1,h2,h3 a⟩
  · cases h
theorem endsM_one {a:Addr} {o o':OD} {d d':D} {r:RES} (h:endsM a o d r) (h':endsM a o' d' r):(o,d)=(o',d'):=by
  cases r with
  | nx ρ=>obtain ⟨h1,h2⟩:=h; obtain ⟨h3,h4⟩:=h'; rw [h1] at h3; cases h3; rw [h2,h4]
  | rt x ρ=>obtain ⟨h1,h2⟩:=h; obtain ⟨h3,h4⟩:=h'; rw [h2] at h4; cases h4; rw [h1] at h3; cases h3; rfl
  | bk ρ=>cases h
  | ct ρ=>cases h
theorem mMof_eq {n p:Nat} {g:DF→Option RES} {o:OD} {xs:List DV} {o':OD} {d:D} (hl:xs.length + 1=p) (hf:o'.flat=true) (h:∀ a,∃ r,g (startD n p (.own o (some a)::xs))=some r∧endsM a o' d r):mMof n p g o xs=some (o',d):=by
  have hq:∃ q,mMAt n p g o xs q:=⟨(o',d),hl,hf,h⟩
  unfold mMof
  rw [dif_pos hq]
  obtain ⟨_,_,h3⟩:=hq.choose_spec
  obtain ⟨r,e,q⟩:=h3 0
  obtain ⟨r',e',q'⟩:=h 0
  rw [e'] at e
  cases e
  exact congrArg some (endsM_one q q')
section
variable {X:Cx} {pins:List (Addr×Obj)} {σ:List (Option V)} {H:Hp} {s:Shared} {h':Heap}
theorem Inv.turnedL {t':Nat} {fp:List Addr} (I:Inv X pins σ H s) (k:∀ b o,b∉fp→s.heap.get? b=some o→h'.get? b=some o) (hf:∀ b∈fp,FpOk X pins H b):Inv X pins σ H { s with heap:=h',toks:=t' }:=by
  have nit:∀ b u,H b=some u→b∉fp:=fun b u e z=>by rw [(hf b z).1] at e; cases e
  refine I.step (g':=s.gens) (d':=s.drawn) (ch:=fp) (fun b hb=>?_) (fun b o _ _ hc e _=>k b o hc e) (fun b o _ _ hc e _=>⟨o.slots,k b o hc e⟩) (fun _ _ _ _ n=>n)
    (fun b o hc e=>⟨o,k b o hc e⟩) (fun _ _ e=>e) (fun _ _ _ e=>e) (fun b ps e=>⟨#[],by rw [e]; simp⟩) (fun m hm=>?_) (fun b u e=>?_) I.bare
  · obtain ⟨_,hL,_,h1,h2,h3⟩:=hf b hb
    exact ⟨h1,hL,h2,h3⟩
  · obtain ⟨o,es,ep,ho,r⟩:=hm
    exact ⟨o,es,ep,k _ o (fun z=>(hf _ z).2.1 rfl) ho,r⟩
  · refine (I.hok b u e).stay (fun c v hc q=>k c v ?_ q) (fun _ q=>q) fun _ _ q=>q
    rcases hc with z | z
    · rw [z]; exact nit b u e
    · exact nit c _ z
theorem Inv.turnedLaid {t':Nat} {fp:List Addr} {a:Addr} {o:HO} (I:Inv X pins σ H s) (k:∀ b o,b∉fp→s.heap.get? b=some o→h'.get? b=some o) (hf:∀ b∈fp,FpOk X pins H b) (hp:s.heap.objs.size≤a) (new:ObjOk X.prog X.w (upd H a o) h' a o) :
    Inv X pins σ (upd H a o) { s with heap:=h',toks:=t' }:=by
  have hn:H a=none:=I.hok.fresh hp
  have nit:∀ b u,H b=some u→b∉fp:=fun b u e z=>by rw [(hf b z).1] at e; cases e
  have ne1:∀ b u,s.heap.get? b=some u→b≠a:=fun b u q=>Nat.ne_of_lt (Nat.lt_of_lt_of_le (Heap.lt_size q) hp)
  refine I.step (g':=s.gens) (d':=s.drawn) (ch:=fp) (fun b hb=>?_) (fun b o _ _ hc e _=>k b o hc e) (fun b o _ _ hc e _=>⟨o.slots,k b o hc e⟩) (fun b u _ q n=>by rw [upd_ne (ne1 b u q)]; exact n)
    (fun b o hc e=>⟨o,k b o hc e⟩) (fun b xs e=>by rw [upd_ne (ne_of_none e hn)]; exact e) (fun b _ _ e=>by rw [upd_ne (ne_of_none e hn)]; exact e) (fun b ps e=>⟨#[],by rw [upd_ne (ne_of_none e hn),e]; simp⟩) (fun m hm=>?_) (fun b u e=>?_) I.bare
  · obtain ⟨_,hL,_,h1,h2,h3⟩:=hf b hb
    exact ⟨h1,hL,h2,h3⟩
  · obtain ⟨o,es,ep,ho,r⟩:=hm
    exact ⟨o,es,ep,k _ o (fun z=>(hf _ z).2.1 rfl) ho,r⟩
  · by_cases hb:b=a
    · subst hb; rw [upd_same] at e; cases e; exact new
    · rw [upd_ne hb] at e
      refine (I.hok b u e).stay (fun c v hc q=>k c v ?_ q) (fun c q=>by rw [upd_ne (ne_of_none q hn)]; exact q) fun c xs q=>by rw [upd_ne (ne_of_none q hn)]; exact q
      rcases hc with z | z
      · rw [z]; exact nit b u e
      · exact nit c _ z
end
section
variable {X:Cx} {l:Expr} {elts:List Expr} {kk:Nat} {tpos pos p:Pos}
end
section
variable {prog:Program} {w:World} {A:Around} {E:Value→Shared→Prop} {s:Shared}
theorem nextT {it t:Addr} {i:Nat} {ys:Array Value} {y:Value} {Q:Value→Shared→Prop} (a:s.heap.IsTupleIter it t i) (b:s.heap.IsTuple t ys) (c:ys[i]?=some y)
    (q:∀ g,g.IsTupleIter it t (i + 1)→Heap.SameBut it s.heap g→Q y { s with heap:=g }):wpAny (model prog w) A (Builtin.SmallTypes.nextOf (.ref it)) Q E s:=by
  have ty:=a.typeIs
  obtain ⟨u,e1,e2,e3⟩:=a
  obtain ⟨v,f1,f2,m,f3⟩:=b
  unfold Builtin.SmallTypes.nextOf
  refine wpAny_bind (wpAny_callSpecial?_slot (name:=Str.ofString "__next__") ty F.slot_tuple_iterator_next (wpAny_call_entry F.slot_tuple_iterator_next ty F.entry_tuple_iterator_next ?_ (F.args_tuple_iterator_next_1 _)))
  refine wpAny_bind (m:=field (.ref it) 0) (wpAny_field e1 e3 (x:=.ref t) rfl ?_)
  have nn:¬ ((Value.ref t == Value.none)=true):=Bool.false_ne_true
  show wpAny _ _ (if (Value.ref t == Value.none)=true then _ else field (.ref it) 1>>=_) _ _ s
  rw [if_neg nn]
  refine wpAny_bind (wpAny_field e1 e3 (x:=.int i 0) rfl ?_)
  refine wpAny_bind (m:=seqItems? (.ref t)) (wpAny_seqItems f1 f3 ?_)
  simp only [Int.toNat_natCast,c]
  refine wpAny_bind (wpAny_setField e1 e3 (by simp) (wpAny_pure ⟨y,rfl,wpAny_pure (q _ ⟨_,Heap.get?_update_self _ e1 (Obj.isFreed_of_fields (Obj.data_mapFields e3 _)),(Obj.cls_mapFields ..).trans e2,?_⟩ (Heap.SameBut.update ..))⟩))
  rw [Obj.data_mapFields e3]
  simp [rawInt]
theorem endT {it t:Addr} {i:Nat} {ys:Array Value} {Q:Value→Shared→Prop} (hd:A.handled=none) (a:s.heap.IsTupleIter it t i) (b:s.heap.IsTuple t ys) (c:ys[i]?=none)
    (q:∀ g x,Heap.ExtBut it s.heap g→(∃ o,g.get? x=some o∧o.cls=.type "StopIteration")→E (.ref x) { s with heap:=g }):wpAny (model prog w) A (Builtin.SmallTypes.nextOf (.ref it)) Q E s:=by
  have ty:=a.typeIs
  obtain ⟨u,e1,e2,e3⟩:=a
  obtain ⟨v,f1,f2,m,f3⟩:=b
  unfold Builtin.SmallTypes.nextOf
  refine wpAny_bind (wpAny_callSpecial?_slot (name:=Str.ofString "__next__") ty F.slot_tuple_iterator_next (wpAny_call_entry F.slot_tuple_iterator_next ty F.entry_tuple_iterator_next ?_ (F.args_tuple_iterator_next_1 _)))
  refine wpAny_bind (m:=field (.ref it) 0) (wpAny_field e1 e3 (x:=.ref t) rfl ?_)
  have nn:¬ ((Value.ref t == Value.none)=true):=Bool.false_ne_true
  show wpAny _ _ (if (Value.ref t == Value.none)=true then _ else field (.ref it) 1>>=_) _ _ s
  rw [if_neg nn]
  refine wpAny_bind (wpAny_field e1 e3 (x:=.int i 0) rfl ?_)
  refine wpAny_bind (m:=seqItems? (.ref t)) (wpAny_seqItems f1 f3 ?_)
  simp only [Int.toNat_natCast,c]
  refine wpAny_bind (wpAny_rule (wpAny_bind (wpAny_setField e1 e3 (by simp) ?_)))
  refine wpAny_bind (m:=newExc (.type "StopIteration") []) ?_
  simp only [newExc,newTuple]
  refine wpAny_bind (wpAny_newObj_type ?_ (by size_fits))
  refine wpAny_bind (m:=firstArgMember _ _) (wpAny_of_eq (a:=Value.none) (by first | rfl | (simp only [firstArgMember]; rfl)) (wpAny_newObj_type ?_ (by size_fits)))
  simp only [raiseNew]
  refine wpAny_bind (wpAny_handled ?_)
  rw [show A.in1.handled=none from hd]
  refine wpAny_bind (wpAny_pure (wpAny_throw ?_))
  exact q _ _ (((Heap.SameBut.update ..).extBut.push _).push _) ⟨_,Heap.get?_push_size _ rfl,rfl⟩
end
noncomputable def SIt (b:Bool) (h:Heap) (it l:Addr) (i:Nat):Prop:=if b=true then h.IsListIter it l i else h.IsTupleIter it l i
noncomputable def SSq (b:Bool) (h:Heap) (l:Addr) (ys:Array Value):Prop:=if b=true then h.IsList l ys else h.IsTuple l ys
theorem SIt.at {b:Bool} {h h':Heap} {it l:Addr} {i:Nat} (x:SIt b h it l i) (e:∀ o,h.get? it=some o→h'.get? it=some o):SIt b h' it l i:=by
  cases b
  · exact Heap.IsTupleIter.at x e
  · exact Heap.IsListIter.at x e
theorem SSq.at {b:Bool} {h h':Heap} {l:Addr} {ys:Array Value} (x:SSq b h l ys) (e:∀ o,h.get? l=some o→h'.get? l=some o):SSq b h' l ys:=by
  cases b
  · exact Heap.IsTuple.at x e
  · exact Heap.IsList.at x e
theorem SIt.obj {b:Bool} {h:Heap} {it l:Addr} {i:Nat} (x:SIt b h it l i):∃ o,h.get? it=some o∧∀ v,o.data≠.cell v:=by
  cases b
  · obtain ⟨o,e,_,d⟩:=(show h.IsTupleIter it l i from x); exact ⟨o,e,fun v z=>by rw [d] at z; cases z⟩
  · obtain ⟨o,e,_,d⟩:=(show h.IsListIter it l i from x); exact ⟨o,e,fun v z=>by rw [d] at z; cases z⟩
section
variable {prog:Program} {w:World} {A:Around} {E:Value→Shared→Prop} {s:Shared}
theorem nextS {b:Bool} {it l:Addr} {i:Nat} {ys:Array Value} {y:Value} {Q:Value→Shared→Prop} (a:SIt b s.heap it l i) (c:SSq b s.heap l ys) (d:ys[i]?=some y)
    (q:∀ g,SIt b g it l (i + 1)→Heap.SameBut it s.heap g→Q y { s with heap:=g }):wpAny (model prog w) A (Builtin.SmallTypes.nextOf (.ref it)) Q E s:=by
  cases b
  · exact nextT a c d q
  · exact wpAny_nextOf_list_item a c d q
theorem endS {b:Bool} {it l:Addr} {i:Nat} {ys:Array Value} {Q:Value→Shared→Prop} (hd:A.handled=none) (a:SIt b s.heap it l i) (c:SSq b s.heap l ys) (d:ys[i]?=none)
    (q:∀ g x,Heap.ExtBut it s.heap g→(∃ o,g.get? x=some o∧o.cls=.type "StopIteration")→E (.ref x) { s with heap:=g }):wpAny (model prog w) A (Builtin.SmallTypes.nextOf (.ref it)) Q E s:=by
  cases b
  · exact endT hd a c d q
  · exact wpAny_nextOf_list_end hd a c d q
theorem zipStep {b1 b2:Bool} {z TI TO i1 i2 l1 l2:Addr} {k:Nat} {xs ys:Array Value} {x y a b:Value} {Q:Value→Shared→Prop} (D:ZipApart z TI TO i1 i2 l1 l2)
    (hz:IsZip s.heap z TI TO .none) (hTI:IsPair s.heap TI (.ref i1) (.ref i2)) (hTO:IsPair s.heap TO a b) (h1:SIt b1 s.heap i1 l1 k) (h2:SIt b2 s.heap i2 l2 k) (q1:SSq b1 s.heap l1 xs) (q2:SSq b2 s.heap l2 ys)
    (hx:xs[k]?=some x) (hy:ys[k]?=some y)
    (hQ:∀ g,IsZip g z TI TO (rawInt s.heap.objs.size)→IsPair g TO x y→SIt b1 g i1 l1 (k + 1)→SIt b2 g i2 l2 (k + 1)→IsPair g s.heap.objs.size x y→
      (∀ c o,c∉[z,TO,i1,i2]→s.heap.get? c=some o→g.get? c=some o)→Q (.ref s.heap.objs.size) { s with heap:=g }) :
    wpAny (model prog w) A (Builtin.«zip.__next__» ⟨[.ref z],[]⟩) (fun fin s'=>∃ v,fin=.done (.ret v)∧Q v s') E s:=by
  refine wpAny_bind (m:=field (.ref z) 2) (wpAny_field hz rfl (x:=.bool false) rfl ?_)
  refine wpAny_bind (m:=field (.ref z) 3) (wpAny_field hz rfl (x:=.ref TI) rfl ?_)
  refine wpAny_bind (wpAny_seqItems hTI rfl ?_)
  refine wpAny_bind (m:=Builtin.SmallTypes.ownedTupleIsFree (.ref z)) ?_
  unfold Builtin.SmallTypes.ownedTupleIsFree
  refine wpAny_bind (wpAny_field hz rfl (x:=.none) rfl (wpAny_pure ?_))
  simp only [if_true]
  refine wpAny_bind (wpAny_rule (wpAny_bind (wpAny_field hz rfl (x:=.ref TO) rfl (wpAny_bind (wpAny_setField_rec hz (by simp) fun ga za sa=>?_)))))
  have za:IsZip ga z TI TO .ellipsis:=za
  have ka:∀ c o,c≠z→s.heap.get? c=some o→ga.get? c=some o:=fun c o n e=>sa.extBut _ _ n e
  refine wpAny_bind ?_
  simp only [List.zipIdx_cons,List.zipIdx_nil,List.forIn_cons,List.forIn_nil]
  refine wpAny_bind (wpAny_bind (wpAny_onRaise (wpAny_bind (m:=Builtin.SmallTypes.nextOf (.ref i1)) ?_)))
  refine nextS (h1.at fun o e=>ka _ o D.i1z e) (q1.at fun o e=>ka _ o D.l1z e) hx fun gb ib sb=>wpAny_pure ?_
  have kb:∀ c o,c≠z→c≠i1→s.heap.get? c=some o→gb.get? c=some o:=fun c o n m e=>sb.extBut _ _ m (ka c o n e)
  have tb:IsPair gb TO a b:=kb _ _ D.TOz D.TOi1 hTO
  refine wpAny_bind (wpAny_seqItems tb rfl (wpAny_bind (wpAny_updateSeq_pair tb fun gc tc sc=>?_)))
  have tc:IsPair gc TO x b:=tc
  have kc:∀ c o,c≠z→c≠i1→c≠TO→s.heap.get? c=some o→gc.get? c=some o:=fun c o n m l e=>sc.extBut _ _ l (kb c o n m e)
  refine wpAny_bind (wpAny_letGo (wpAny_pure ?_))
  refine wpAny_bind (wpAny_bind (wpAny_onRaise (wpAny_bind (m:=Builtin.SmallTypes.nextOf (.ref i2)) ?_)))
  refine nextS (h2.at fun o e=>kc _ o D.i2z D.i12.symm D.TOi2.symm e) (q2.at fun o e=>kc _ o D.l2z D.l2i1 D.l2TO e) hy fun gd id' sd=>wpAny_pure ?_
  have td:IsPair gd TO x b:=sd.extBut _ _ D.TOi2 tc
  refine wpAny_bind (wpAny_seqItems td rfl (wpAny_bind (wpAny_updateSeq_pair td fun ge te se=>?_)))
  have te:IsPair ge TO x y:=te
  have ke:∀ c o,c≠z→c≠i1→c≠TO→c≠i2→s.heap.get? c=some o→ge.get? c=some o:=fun c o n m l r e=>se.extBut _ _ l (sd.extBut _ _ r (kc c o n m l e))
  refine wpAny_bind (wpAny_letGo (wpAny_pure (wpAny_pure ?_)))
  refine wpAny_bind (wpAny_seqItems te rfl (wpAny_bind (wpAny_newTuple ?_)))
  have hsz:ge.objs.size=s.heap.objs.size:=by rw [se.1,sd.1,sc.1,sb.1,sa.1]
  have ze:IsZip ge z TI TO .ellipsis:=se.extBut _ _ D.TOz.symm (sd.extBut _ _ D.i2z.symm (sc.extBut _ _ D.TOz.symm (sb.extBut _ _ D.i1z.symm za)))
  have ie:SIt b1 ge i1 l1 (k + 1):=ib.at fun o e=>se.extBut _ _ D.TOi1.symm (sd.extBut _ _ D.i12 (sc.extBut _ _ D.TOi1.symm e))
  have je:SIt b2 ge i2 l2 (k + 1):=id'.at fun o e=>se.extBut _ _ D.TOi2.symm e
  have zlt:z < ge.objs.size:=Heap.lt_size ze
  refine wpAny_bind (m:=Builtin.SmallTypes.ownedTupleHandOut (.ref z) (.ref ge.objs.size)) ?_
  unfold Builtin.SmallTypes.ownedTupleHandOut
  have zf:IsZip (ge.push { cls:=.type "tuple",data:=.seq #[x,y] }) z TI TO .ellipsis:=Heap.get?_push_of_some _ ze
  refine wpAny_bind (wpAny_setField_rec zf (by simp) fun gg zg sg=>?_)
  have zg:IsZip gg z TI TO (rawInt ge.objs.size):=zg
  refine wpAny_setField_rec zg (by simp) fun gh zh sh=>wpAny_pure ⟨_,rfl,?_⟩
  have zh:IsZip gh z TI TO (rawInt ge.objs.size):=zh
  have up:∀ c o,c≠z→ge.get? c=some o→gh.get? c=some o:=fun c o n e=>sh.extBut _ _ n (sg.extBut _ _ n (Heap.get?_push_of_some _ e))
  have tn:IsPair gh ge.objs.size x y:=sh.extBut _ _ (Nat.ne_of_gt zlt) (sg.extBut _ _ (Nat.ne_of_gt zlt) (Heap.get?_push_size _ rfl))
  show Q (.ref ge.objs.size) _
  rw [hsz] at zh tn ⊢
  exact hQ gh zh (up _ _ D.TOz te) (ie.at fun o e=>up _ o D.i1z e) (je.at fun o e=>up _ o D.i2z e) tn fun c o hc e=>up c o (fun z=>hc (by simp [z])) (ke c o (fun z=>hc (by simp [z])) (fun z=>hc (by simp [z])) (fun z=>hc (by simp [z])) (fun z=>hc (by simp [z])) e)
theorem zipEnd {b1 b2:Bool} {z TI TO i1 i2 l1 l2:Addr} {k:Nat} {xs ys:Array Value} {a b:Value} {Q:Fin→Shared→Prop} (hh:A.handled=none) (D:ZipApart z TI TO i1 i2 l1 l2)
    (hz:IsZip s.heap z TI TO .none) (hTI:IsPair s.heap TI (.ref i1) (.ref i2)) (hTO:IsPair s.heap TO a b) (h1:SIt b1 s.heap i1 l1 k) (h2:SIt b2 s.heap i2 l2 k) (q1:SSq b1 s.heap l1 xs) (q2:SSq b2 s.heap l2 ys)
    (hend:xs[k]?=none)
    (hE:∀ g e,(∀ c o,c∉[z,TO,i1,i2]→s.heap.get? c=some o→g.get? c=some o)→(∃ o,g.get? e=some o∧o.cls=.type "StopIteration")→E (.ref e) { s with heap:=g }) :
    wpAny (model prog w) A (Builtin.«zip.__next__» ⟨[.ref z],[]⟩) Q E s:=by
  refine wpAny_bind (m:=field (.ref z) 2) (wpAny_field hz rfl (x:=.bool false) rfl ?_)
  refine wpAny_bind (m:=field (.ref z) 3) (wpAny_field hz rfl (x:=.ref TI) rfl ?_)
  refine wpAny_bind (wpAny_seqItems hTI rfl ?_)
  refine wpAny_bind (m:=Builtin.SmallTypes.ownedTupleIsFree (.ref z)) ?_
  unfold Builtin.SmallTypes.ownedTupleIsFree
  refine wpAny_bind (wpAny_field hz rfl (x:=.none) rfl (wpAny_pure ?_))
  simp only [if_true]
  refine wpAny_bind (wpAny_rule (wpAny_bind (wpAny_field hz rfl (x:=.ref TO) rfl (wpAny_bind (wpAny_setField_rec hz (by simp) fun ga za sa=>?_)))))
  have za:IsZip ga z TI TO .ellipsis:=za
  have ka:∀ c o,c≠z→s.heap.get? c=some o→ga.get? c=some o:=fun c o n e=>sa.extBut _ _ n e
  refine wpAny_bind ?_
  simp only [List.zipIdx_cons,List.zipIdx_nil,List.forIn_cons,List.forIn_nil]
  refine wpAny_bind (wpAny_bind (wpAny_onRaise (wpAny_bind (m:=Builtin.SmallTypes.nextOf (.ref i1)) ?_)))
  refine endS hh (h1.at fun o e=>ka _ o D.i1z e) (q1.at fun o e=>ka _ o D.l1z e) hend fun gb e sb ⟨oe,e1,e2⟩=>?_
  have zb:IsZip gb z TI TO .ellipsis:=sb _ _ D.i1z.symm za
  have hez:e≠z:=fun q=>by subst q; rw [zb] at e1; cases e1; simp at e2
  exact wpAny_setField_rec zb (by simp) fun gc _ sc=>hE gc e (fun c o hc q=>sc.extBut _ _ (fun z=>hc (by simp [z])) (sb _ _ (fun z=>hc (by simp [z])) (ka c o (fun z=>hc (by simp [z])) q))) ⟨oe,sc.extBut _ _ hez e1,e2⟩
end
noncomputable abbrev zT1 (h:Heap) (a:Addr):Heap:=h.push { cls:=.type "tuple_iterator",data:=.fields #[.ref a,.int 0 0] }
noncomputable abbrev zT2 (h:Heap) (a b:Addr):Heap:=zT1 (zT1 h a) b
noncomputable abbrev zT3 (h:Heap) (a b:Addr):Heap:=(zT2 h a b).push { cls:=.type "tuple",data:=.seq #[.ref h.objs.size,.ref (zT1 h a).objs.size] }
noncomputable abbrev zT4 (h:Heap) (a b:Addr):Heap:=(zT3 h a b).push { cls:=.type "tuple",data:=.seq #[.none,.none] }
noncomputable abbrev zT5 (h:Heap) (a b:Addr):Heap:=(zT4 h a b).push { cls:=.type "zip",data:=.fields #[.none,.bool false,.bool false,.ref (zT2 h a b).objs.size,.ref (zT3 h a b).objs.size] }
theorem meetsZipT (a b:Addr) (xs ys:Array Value):Meets (Builtin.«zip.__new__» ⟨[.type "zip",.ref a,.ref b],[]⟩) (fun _ R s=>s.heap.IsTuple a xs∧s.heap.IsTuple b ys∧R (.ok (.ret (.ref (zT4 s.heap a b).objs.size))) { s with heap:=zT5 s.heap a b }):=
  .of_wp fun prog w A R s h=>by
    obtain ⟨hp,g,d,tk,os⟩:=s
    obtain ⟨h1,h2,h⟩:=h
    have hsub:=sub_zip
    have k1:Heap.IsTuple (Shared.heap ⟨hp,g,d,tk,os⟩) a xs:=h1
    have k2:Heap.IsTuple (Shared.heap ⟨zT1 hp a,g,d,tk,os⟩) b ys:=Heap.IsTuple.push h2 _
    wp_walk using wpAny_pyIter_tuple k1,wpAny_pyIter_tuple k2
    exact ⟨_,rfl,h⟩
section
variable {prog:Program} {w:World} {A:Around} {E:Value→Shared→Prop} {s:Shared}
theorem callZip {b:Bool} {l1 l2:Addr} {xs ys:Array Value} {Q:Value→Shared→Prop} (q1:SSq b s.heap l1 xs) (q2:SSq b s.heap l2 ys)
    (h:∀ g,IsZip g (s.heap.objs.size + 4) (s.heap.objs.size + 2) (s.heap.objs.size + 3) .none→IsPair g (s.heap.objs.size + 2) (.ref s.heap.objs.size) (.ref (s.heap.objs.size + 1))→
      IsPair g (s.heap.objs.size + 3) .none .none→SIt b g s.heap.objs.size l1 0→SIt b g (s.heap.objs.size + 1) l2 0→
      (∀ c o,s.heap.get? c=some o→g.get? c=some o)→Q (.ref (s.heap.objs.size + 4)) { s with heap:=g }) :
    wpAny (model prog w) A (call (.type "zip") [.ref l1,.ref l2]) Q E s:=by
  cases b with
  | true=>exact call_zip_2 q1 q2 fun g a1 a2 a3 a4 a5 _ a7=>h g a1 a2 a3 a4 a5 a7
  | false=>
    refine callType_new F.called_zip (by decide) (F.typeCall_zip_2 _ _) (F.newCall_zip_2 _ _) (fun obj=>F.args_object_init_3 obj _ _) F.entry_zip_new (meetsZipT l1 l2 xs ys) ⟨q1,q2,?_⟩
    have z1:(zT1 s.heap l1).objs.size=s.heap.objs.size + 1:=Heap.size_push ..
    have z2:(zT2 s.heap l1 l2).objs.size=s.heap.objs.size + 2:=by rw [Heap.size_push,z1]
    have z3:(zT3 s.heap l1 l2).objs.size=s.heap.objs.size + 3:=by rw [Heap.size_push,z2]
    have z4:(zT4 s.heap l1 l2).objs.size=s.heap.objs.size + 4:=by rw [Heap.size_push,z3]
    have up:=fun {c o} (e:s.heap.get? c=some o)=>(Heap.get?_push_of_some _ (Heap.get?_push_of_some _ (Heap.get?_push_of_some _ (Heap.get?_push_of_some _ (Heap.get?_push_of_some _ e)))):(zT5 s.heap l1 l2).get? c=some o)
    have g5:(zT5 s.heap l1 l2).get? (zT4 s.heap l1 l2).objs.size=some _:=Heap.get?_push_size _ rfl
    have g4:(zT5 s.heap l1 l2).get? (zT3 s.heap l1 l2).objs.size=some _:=Heap.get?_push_of_some _ (Heap.get?_push_size _ rfl)
    have g3:(zT5 s.heap l1 l2).get? (zT2 s.heap l1 l2).objs.size=some _:=Heap.get?_push_of_some _ (Heap.get?_push_of_some _ (Heap.get?_push_size _ rfl))
    have g2:(zT5 s.heap l1 l2).get? (zT1 s.heap l1).objs.size=some _:=Heap.get?_push_of_some _ (Heap.get?_push_of_some _ (Heap.get?_push_of_some _ (Heap.get?_push_size _ rfl)))
    have g1:(zT5 s.heap l1 l2).get? s.heap.objs.size=some _:=Heap.get?_push_of_some _ (Heap.get?_push_of_some _ (Heap.get?_push_of_some _ (Heap.get?_push_of_some _ (Heap.get?_push_size _ rfl))))
    show _∧_
    rw [z2,z3,z4] at g5
    rw [z1,z2] at g3
    rw [z3] at g4
    rw [z1] at g2
    rw [z4]
    exact ⟨⟨_,g5,rfl⟩,h _ g5 g3 g4 (show Heap.IsTupleIter _ _ _ _ from ⟨_,g1,rfl,rfl⟩) (show Heap.IsTupleIter _ _ _ _ from ⟨_,g2,rfl,rfl⟩) fun c o e=>up e⟩
end
noncomputable def SqB (b:Bool) (K:PySem.W.Frag) (H:Hp) (a:Addr) (xs:List V):Prop:=if b=true then SqL K H a xs else SqT K H a xs
noncomputable def Itz (b:Bool) (K:PySem.W.Frag) (a1 a2:Addr):It:=
  ⟨fun i H=>∃ xs ys x y,SqB b K H a1 xs∧SqB b K H a2 ys∧xs[i]?=some x∧ys[i]?=some y,
   fun i H u H'=>∃ p x y,H p=none∧u=.ref p∧H'=upd H p (.tup [x,y])∧(∀ xs,SqB b K H a1 xs→xs[i]?=some x)∧∀ ys,SqB b K H a2 ys→ys[i]?=some y,
   fun i H=>∃ xs ys,SqB b K H a1 xs∧SqB b K H a2 ys∧xs.length≤i⟩
theorem Inv.sqB {X:Cx} {pins:List (Addr×Obj)} {σ:St} {H:Hp} {s:Shared} {b:Bool} {a:Addr} {xs:List V} (I:Inv X pins σ H s) (h:SqB b X.K H a xs):∃ its:List Value,Vals xs its∧SSq b s.heap a its.toArray:=by
  cases b with
  | true=>obtain ⟨its,rv,p,_⟩:=I.list h; exact ⟨its,rv,p.isList⟩
  | false=>obtain ⟨its,rv,p,_⟩:=I.tuple h; exact ⟨its,rv,p⟩
theorem Inv.sqB_inj {X:Cx} {pins:List (Addr×Obj)} {σ:St} {H:Hp} {s:Shared} {b:Bool} {a:Addr} {xs ys:List V} (I:Inv X pins σ H s) (h:SqB b X.K H a xs) (h':SqB b X.K H a ys):xs=ys:=by
  cases b with
  | true=>exact I.list_inj h h'
  | false=>exact I.tuple_inj h h'
theorem Rd.no {H:Hp} {a:Addr} {o:HO} (h:Rd H a o) (n:H a=none):False:=by
  rcases h with h | ⟨u,h⟩
  · rw [n] at h; cases h
  · rw [n] at h; cases h
theorem Inv.sq_out {X:Cx} {pins:List (Addr×Obj)} {σ:St} {H:Hp} {s:Shared} {b:Bool} {a c:Addr} {ws:List V} (I:Inv X pins σ H s) (hf:FpOk X pins H c) (h:SqB b X.K H a ws):a≠c:=by
  intro e
  subst e
  have kk:∀ o,X.K.lookup a=some o→False:=fun o hk=>by
    have hb:X.base.get? a=some o:=I.mod.kin a o hk
    rcases hf.2.2.2.1 with z | z
    · exact I.ok.noex a o hb z
    · exact absurd (Nat.lt_of_lt_of_le (Heap.lt_size (I.ok.bs a o hb).1) z) (Nat.lt_irrefl _)
  cases b with
  | true=>
    rcases (show SqL X.K H a ws from h) with h | ⟨o,its,n,hk,_⟩
    · exact h.no hf.1
    · exact kk o hk
  | false=>
    rcases (show SqT X.K H a ws from h) with h | ⟨o,its,n,hk,_⟩
    · exact h.no hf.1
    · exact kk o hk
theorem turn_zip {P:Program} {w:World} {K:PySem.W.Frag} {elts:List Expr} {kk:Nat} {pos:Pos} {b:Bool} (z TI TO i1 i2 a1 a2:Addr) (D:∀ l1 l2:Addr,l1∉[z,TO,i1,i2]→l2∉[z,TO,i1,i2]→ZipApart z TI TO i1 i2 l1 l2) :
    Turn P w K (.Tuple elts kk pos) (Itz b K a1 a2) [z,TI,TO,i1,i2] z (fun i h=>IsZip h z TI TO .none∧IsPair h TI (.ref i1) (.ref i2)∧(∃ u v,IsPair h TO u v)∧SIt b h i1 a1 i∧SIt b h i2 a2 i) where
  mem:=by simp
  obj:=fun i h st c hc=>by
    obtain ⟨h1,h2,⟨u,v,h3⟩,h4,h5⟩:=st
    have hc':c=z∨c=TI∨c=TO∨c=i1∨c=i2:=by simpa using hc
    rcases hc' with rfl | rfl | rfl | rfl | rfl
    · exact ⟨_,h1,fun v z=>by cases z⟩
    · exact ⟨_,h2,fun v z=>by cases z⟩
    · exact ⟨_,h3,fun v z=>by cases z⟩
    · exact h4.obj
    · exact h5.obj
  keep:=fun i h h' st k=>by
    obtain ⟨h1,h2,⟨u,v,h3⟩,h4,h5⟩:=st
    exact ⟨k z (by simp) _ h1,k TI (by simp) _ h2,⟨u,v,k TO (by simp) _ h3⟩,h4.at fun o e=>k i1 (by simp) o e,h5.at fun o e=>k i2 (by simp) o e⟩
  item:=by
    intro X hP hw hK hc i pins s σ H E I hf st hg
    subst hP hw hK
    obtain ⟨hz,hTI,⟨u,v,hTO⟩,h1,h2⟩:=st
    obtain ⟨xs,ys,x,y,qx,qy,ex,ey⟩:=hg
    obtain ⟨itx,rx,px⟩:=I.sqB qx
    obtain ⟨ity,ry,py⟩:=I.sqB qy
    obtain ⟨ux,hux,rux⟩:=rx.get ex
    obtain ⟨uy,huy,ruy⟩:=ry.get ey
    have hout:∀ a (ws:List V),SqB b X.K H a ws→a∉[z,TO,i1,i2]:=by
      intro a ws hq hm
      have hm':a∈[z,TI,TO,i1,i2]:=by simp at hm ⊢; rcases hm with q | q | q | q <;> simp [q]
      exact I.sq_out (hf a hm') hq rfl
    have D':=D a1 a2 (hout a1 xs qx) (hout a2 ys qy)
    have hT:s.TypeIs (.ref z) "zip":=⟨_,hz,rfl⟩
    unfold pyNext
    refine wpAny_bind (wpAny_attempt (wpAny_callSpecial?_slot (name:=Str.ofString "__next__") hT F.slot_zip_next (wpAny_call_entry F.slot_zip_next hT F.entry_zip_next
      (zipStep D' hz hTI hTO h1 h2 px py (x:=ux) (y:=uy) (by simpa using hux) (by simpa using huy) fun g gz gTO g1 g2 gT gk=>wpAny_pure ?_) (F.args_zip_next_1 _))))
    refine ⟨_,rfl,wpAny_letOwnedTupleGo_zip gz fun h2' hz2 hs2=>?_⟩
    have zlt:z < s.heap.objs.size:=Heap.lt_size hz
    have hTz:s.heap.objs.size≠z:=Nat.ne_of_gt zlt
    have kk2:∀ c o,c∉[z,TI,TO,i1,i2]→s.heap.get? c=some o→h2'.get? c=some o:=fun c o hc e=>(hs2.2 c (fun q=>hc (by simp [q]))).trans (gk c o (fun q=>hc (by simp at q ⊢; rcases q with q | q | q | q <;> simp [q])) e)
    have hT2:IsPair h2' s.heap.objs.size ux uy:=(hs2.2 _ hTz).trans gT
    have I2:Inv X pins σ (upd H s.heap.objs.size (.tup [x,y])) { s with heap:=h2' }:=
      I.turnedLaid (t':=s.toks) kk2 hf (Nat.le_refl _) ⟨show 2≤sizeLine by decide,[ux,uy],.cons rux (.cons ruy .nil),⟨_,hT2,rfl,_,rfl⟩,_,hT2,rfl⟩
    have hn:H s.heap.objs.size=none:=I.hok.fresh (Nat.le_refl _)
    refine ⟨.ref s.heap.objs.size,_,I2,rfl,⟨_,x,y,hn,rfl,rfl,fun ws hy'=>by rw [I.sqB_inj hy' qx]; exact ex,fun ws hy'=>by rw [I.sqB_inj hy' qy]; exact ey⟩,⟨hz2,(hs2.2 _ D'.TIz).trans (gk _ _ (by simp [D'.TIz,D'.TITO,D'.TIi1,D'.TIi2]) hTI),⟨_,_,(hs2.2 _ D'.TOz).trans gTO⟩,g1.at fun o e=>(hs2.2 _ D'.i1z).trans e,g2.at fun o e=>(hs2.2 _ D'.i2z).trans e⟩,fun c hc=>?_⟩
    have hlt:c < s.heap.objs.size:=by
      have hc':c=z∨c=TI∨c=TO∨c=i1∨c=i2:=by simpa using hc
      rcases hc' with rfl | rfl | rfl | rfl | rfl
      · exact zlt
      · exact Heap.lt_size hTI
      · exact Heap.lt_size hTO
      · obtain ⟨o,e,_⟩:=h1.obj; exact Heap.lt_size e
      · obtain ⟨o,e,_⟩:=h2.obj; exact Heap.lt_size e
    rw [upd_ne (Nat.ne_of_lt hlt)]
    exact (hf c hc).1
  done:=by
    intro X hP hw hK hc i pins s σ H E I hf st hg
    subst hP hw hK
    obtain ⟨hz,hTI,⟨u,v,hTO⟩,h1,h2⟩:=st
    obtain ⟨xs,ys,qx,qy,hl⟩:=hg
    obtain ⟨itx,rx,px⟩:=I.sqB qx
    obtain ⟨ity,ry,py⟩:=I.sqB qy
    have hout:∀ a (ws:List V),SqB b X.K H a ws→a∉[z,TO,i1,i2]:=by
      intro a ws hq hm
      have hm':a∈[z,TI,TO,i1,i2]:=by simp at hm ⊢; rcases hm with q | q | q | q <;> simp [q]
      exact I.sq_out (hf a hm') hq rfl
    have D':=D a1 a2 (hout a1 xs qx) (hout a2 ys qy)
    have hT:s.TypeIs (.ref z) "zip":=⟨_,hz,rfl⟩
    have hlen:=rx.length
    unfold pyNext
    refine wpAny_bind (wpAny_attempt (wpAny_callSpecial?_slot (name:=Str.ofString "__next__") hT F.slot_zip_next (wpAny_call_entry F.slot_zip_next hT F.entry_zip_next
      (zipEnd (I.ok.hd hc) D' hz hTI hTO h1 h2 px py (by simp; omega) fun g e gk ⟨o,e1,e2⟩=>?_) (F.args_zip_next_1 _))))
    refine wpAny_bind (wpAny_isInstance (T := "StopIteration") (b:=true) ⟨o,e1,e2⟩ isSubtype_stop (wpAny_pure ⟨rfl,?_⟩))
    exact I.turnedL (t':=s.toks) (fun c o hc e=>gk c o (fun q=>hc (by simp at q ⊢; rcases q with q | q | q | q <;> simp [q])) e) hf
  self:=fun _ _ _ _ _ st h=>wpAny_pyIter_zip st.1 h
section
variable {X:Cx} {e1 e2:Expr} {elts:List Expr} {kk:Nat} {tpos pos p:Pos}
noncomputable def iZip (K:PySem.W.Frag) (ta:TA):TI:=fun σ H R=>ta σ H fun vs H1=>∃ b a1 a2,vs=[.ref a1,.ref a2]∧(∃ xs,SqB b K H1 a1 xs)∧(∃ ys,SqB b K H1 a2 ys)∧R (Itz b K a1 a2) H1
theorem boot_zip:bootBuiltins "zip"=some (.type "zip"):=by rfl
theorem pi_zip {ta:TA} (hg:Gl X "zip") (hm:X.mg "zip"=none) (ha:PA X [e1,e2] ta) (hs:starEach [e1,e2] X.env=[(false,eval e1 X.env),(false,eval e2 X.env)]:=by rfl) (hs2:starEach [e2] X.env=[(false,eval e2 X.env)]:=by rfl):PI X (.Tuple elts kk tpos) (.Call (.Name "zip" p) [e1,e2] [] pos) (iZip X.K ta):=by
  intro pins s σ H R I h
  refine Call_ (ld_blt I hg hm boot_zip (PyProof.Rows.callWith_type1 (thn (ha pos pins s σ H _ I h) fun us s1 ⟨vs,H1,I1,r1,q1⟩=>?_) (by rw [hs,hs2]) (by rw [hs2]; rfl)))
  obtain ⟨b,a1,a2,e,⟨xs,qx⟩,⟨ys,qy⟩,q⟩:=q1
  subst e
  cases r1 with
  | cons ra rr=>
  cases rr with
  | cons rb rr=>
  cases rr
  cases ra
  cases rb
  obtain ⟨itx,rx,px⟩:=I1.sqB qx
  obtain ⟨ity,ry,py⟩:=I1.sqB qy
  refine callZip px py fun g gz gTI gTO g1 g2 kp=>?_
  have I2:Inv X pins σ H1 { s1 with heap:=g }:=I1.kept (t':=s1.toks) kp
  refine wpAny_pyIter_zip gz ?_
  refine ⟨s1.heap.objs.size + 4,[s1.heap.objs.size + 4,s1.heap.objs.size + 2,s1.heap.objs.size + 3,s1.heap.objs.size,s1.heap.objs.size + 1],_,_,H1,rfl,I2,turn_zip _ _ _ _ _ a1 a2 (fun l1 l2 n1 n2=>?_),⟨gz,gTI,⟨_,_,gTO⟩,g1,g2⟩,fun b hb=>?_,q⟩
  · simp only [List.mem_cons,List.not_mem_nil,or_false,not_or] at n1 n2
    obtain ⟨n11,n12,n13,n14⟩:=n1
    obtain ⟨n21,n22,n23,n24⟩:=n2
    constructor <;> first | assumption | exact Nat.ne_of_lt (by omega) | exact Nat.ne_of_gt (by omega)
  · have hge:s1.heap.objs.size≤b:=by
      simp only [List.mem_cons,List.not_mem_nil,or_false] at hb
      rcases hb with rfl | rfl | rfl | rfl | rfl <;> first | exact Nat.le_refl _ | exact Nat.le_add_right _ _
    exact I1.fpOk hge (I1.hok.fresh hge)
noncomputable def zipL (as bs:List D):List D:=(as.zip bs).map fun x=>.tup [x.1,x.2]
noncomputable def zipOf (f g:DF→Option D):DF→Option (List D):=fun ρ=>match f ρ,g ρ with
  | some (.lst as),some (.lst bs)=>if as.length=bs.length then some (zipL as bs) else none
  | some (.tup as),some (.tup bs)=>if as.length=bs.length then some (zipL as bs) else none
  | _,_=>none
theorem zipL_get {as bs:List D} {i:Nat} {d:D} (h:(zipL as bs)[i]?=some d):∃ x y,as[i]?=some x∧bs[i]?=some y∧d=.tup [x,y]:=by
  unfold zipL at h
  rw [List.getElem?_map] at h
  cases q:(as.zip bs)[i]? with
  | none=>rw [q] at h; cases h
  | some z=>
    rw [q] at h
    cases h
    obtain ⟨h1,h2⟩:=List.getElem?_zip_eq_some.mp q
    exact ⟨z.1,z.2,h1,h2,rfl⟩
theorem itOk_zip {K:PySem.W.Frag} {P F:Hp} {b:Bool} {a1 a2:Addr} {vs us:List V} {as bs:List D} (h1:∀ F' H',Same F F'→DHp P F' H'→SqB b K H' a1 vs) (h2:∀ F' H',Same F F'→DHp P F' H'→SqB b K H' a2 us) (r1:Reps K F vs as) (r2:Reps K F us bs) (hl:as.length=bs.length):ItOk K P (Itz b K a1 a2) F (zipL as bs):=by
  intro F' H' e hp i
  refine ⟨fun d hd=>?_,fun hle=>⟨vs,us,h1 F' H' e hp,h2 F' H' e hp,by rw [r1.length]; simpa [zipL,hl] using hle⟩⟩
  obtain ⟨x,y,hx,hy,rfl⟩:=zipL_get hd
  obtain ⟨v,e1,q1⟩:=r1.get hx
  obtain ⟨u,e2,q2⟩:=r2.get hy
  refine ⟨⟨vs,us,v,u,h1 F' H' e hp,h2 F' H' e hp,e1,e2⟩,fun w H2 hy'=>?_⟩
  obtain ⟨q,v',u',hn,rfl,rfl,hv,hu⟩:=hy'
  have t1:=hv vs (h1 F' H' e hp)
  have t2:=hu us (h2 F' H' e hp)
  rw [e1] at t1; cases t1
  rw [e2] at t2; cases t2
  have ev:=Evo.laid hp (o:=.tup [v,u]) hn
  exact ⟨_,ev,.tup upd_same (.cons ((q1.same e).same ev.ext) (.cons ((q2.same e).same ev.ext) .nil))⟩
theorem pdi_zip {f g:DF→Option D} (hg:Gl X "zip") (hm:X.mg "zip"=none) (h1:PDE X e1 f) (h2:PDE X e2 g) (hs:starEach [e1,e2] X.env=[(false,eval e1 X.env),(false,eval e2 X.env)]:=by rfl) (hs2:starEach [e2] X.env=[(false,eval e2 X.env)]:=by rfl):PDI X (.Tuple elts kk tpos) (.Call (.Name "zip" p) [e1,e2] [] pos) (zipOf f g):=
  PI.imp (pi_zip hg hm (pa_cons h1 (pa_cons h2 pa_nil hs2) (by rw [hs,hs2])) hs hs2) fun σ H R ⟨P,F,ρ,ds,hf,I,k⟩=>by
    unfold zipOf at hf
    split at hf
    · rename_i as bs qa qb
      split at hf
      · rename_i hl
        cases hf
        refine ⟨P,F,ρ,_,qa,I,fun v F1 H1 ev1 rv=>⟨P,F1,ρ,_,qb,I.evo ev1,fun u F2 H2 ev2 ru=>?_⟩⟩
        cases rv with
        | lst x1 x2=>
          cases ru with
          | lst y1 y2=>
            refine ⟨true,_,_,rfl,⟨_,ev2.hp.sub.seq (ev2.ext.seq x1)⟩,⟨_,ev2.hp.sub.seq y1⟩,k _ F2 H2 (ev1.trans ev2) (itOk_zip (fun F' H' e hp=>hp.sub.seq (e.seq (ev2.ext.seq x1))) (fun F' H' e hp=>hp.sub.seq (e.seq y1)) (x2.same ev2.ext) y2 hl)⟩
      · cases hf
    · rename_i as bs qa qb
      split at hf
      · rename_i hl
        cases hf
        refine ⟨P,F,ρ,_,qa,I,fun v F1 H1 ev1 rv=>⟨P,F1,ρ,_,qb,I.evo ev1,fun u F2 H2 ev2 ru=>?_⟩⟩
        cases rv with
        | tup x1 x2=>
          cases ru with
          | tup y1 y2=>
            refine ⟨false,_,_,rfl,⟨_,SqT.of (ev2.hp.sub _ _ (ev2.ext _ _ x1))⟩,⟨_,SqT.of (ev2.hp.sub _ _ y1)⟩,k _ F2 H2 (ev1.trans ev2) (itOk_zip (fun F' H' e hp=>SqT.of (hp.sub _ _ (e _ _ (ev2.ext _ _ x1)))) (fun F' H' e hp=>SqT.of (hp.sub _ _ (e _ _ y1))) (x2.same ev2.ext) y2 hl)⟩
      · cases hf
    · cases hf
end
theorem All2.get {α β:Type} {R:α→β→Prop} {as:List α} {bs:List β} (h:All2 R as bs) {j:Nat} {d:β} (e:bs[j]?=some d):∃ a,as[j]?=some a∧R a d:=by
  induction h generalizing j with
  | nil=>exact nomatch e
  | cons q _ ih=>
    cases j with
    | zero=>obtain rfl:=Option.some.inj e; exact ⟨_,rfl,q⟩
    | succ j=>exact ih e
theorem All2.impM {α β:Type} {R S:α→β→Prop} {as:List α} {bs:List β} (h:All2 R as bs) (f:∀ a b,a∈as→R a b→S a b):All2 S as bs:=by
  induction h with
  | nil=>exact .nil
  | cons q _ ih=>exact .cons (f _ _ List.mem_cons_self q) (ih fun a b m=>f a b (List.mem_cons_of_mem _ m))
theorem All2.set {α β:Type} {R S:α→β→Prop} {as:List α} {bs:List β} (h:All2 R as bs) {j:Nat} {a:α} {d:β} (nd:as.Nodup) (ea:as[j]?=some a) (hS:S a d) (hR:∀ b x,b≠a→R b x→S b x):All2 S as (bs.set j d):=by
  induction h generalizing j with
  | nil=>exact nomatch ea
  | @cons a' b' as' bs' q r ih=>
    obtain ⟨n1,n2⟩:=List.nodup_cons.mp nd
    cases j with
    | zero=>
      obtain rfl:=Option.some.inj ea
      exact .cons hS (r.impM fun b x hb=>hR b x fun z=>by subst z; exact n1 hb)
    | succ j=>
      have:a'≠a:=fun z=>by subst z; exact n1 (List.mem_of_getElem? ea)
      exact .cons (hR _ _ this q) (ih n2 ea)
section
variable {X:Cx} {e:Expr} {pos:Pos}
end
end L2
namespace L2
open PySem PySem.Spec PySem.Calls PySem.W PyProof.Rows Builtin Builtin.ObjectAttr Builtin.Getset_descriptor
noncomputable def ExAt (e C:Addr) (h:Heap):Prop:=∃ o,h.get? e=some o∧o.cls=.ref C
theorem ExAt.type {M:Model} {e C:Addr} {h:Heap} (x:ExAt e C h):Looks M h (typeOf (.ref e)) (.ref C):=by
  obtain ⟨o,h1,h2⟩:=x
  exact h2 ▸ (Looks.ld h1).andThen .now
structure ExC (K:PySem.W.Frag) (C:Addr):Prop where
  ga:findIn K (.ref C) "__getattribute__"=some (some (.builtin "BaseException.__getattribute__"))
  noga:findIn K (.ref C) "__getattr__"=some none
  ha:findIn K (.ref C) "__class__"=some (some (.builtin "object.__class__"))
  hn:specialIn K (.builtin "object.__class__") "__get__"=some (some (.builtin "getset_descriptor.__get__"))
  htk:takesIn K (.builtin "object.__class__")=some true
  hm:mroIn K C (.type "object")=some true
  hb:mroIn K C (.type "BaseException")=some true
section
variable {K:PySem.W.Frag} {e C:Addr} {prog:Program} {w:World} {A:Around} {E:Value→Shared→Prop} {s:Shared}
theorem ex_find {M:Model} {h:Heap} (X:K.In h) (x:ExC K C):Looks M h (find (.ref e) (.ref C) "__class__") (.bind (.builtin "getset_descriptor.__get__") (.builtin "object.__class__")):=by
  have L1:=looks_findIn (M:=M) X x.ha
  have L2:Looks M h (getOf (some (.builtin "object.__class__"))) (some (.builtin "getset_descriptor.__get__")):=looks_specialIn X x.hn
  have L3:=looks_takesIn (M:=M) X x.htk
  refine L1.andThen (L2.andThen ?_)
  exact (show Looks M h (dataDescriptor? (some (.builtin "object.__class__")) (some (.builtin "getset_descriptor.__get__"))) (some (.builtin "getset_descriptor.__get__",.builtin "object.__class__")) from L3.andThen .now).andThen (Looks.tag .now)
theorem ex_get {R:Result→Shared→Prop} {tp:Value} (X:K.In s.heap) (x:ExC K C) (I:ExAt e C s.heap) (h:R (.ok (.ret (.ref C))) s) :
    codeAny (model prog w) A (.call (.builtin "getset_descriptor.__get__") ⟨[.builtin "object.__class__",.ref e,tp],[]⟩) R s:=by
  obtain ⟨hh,g,dr,t,os⟩:=s
  have L0:=I.type (M:=model prog w)
  have L1:=looks_mroIn (M:=model prog w) X x.hm
  refine codeAny_call_builtin KF.slot_gs.plain KF.entry_gs ?_; refine KF.slot_gs.check _ _ _ _ _ _ _ _ KF.type_class (KF.args_gs _ _ _) ?_
  (unfold Builtin.«getset_descriptor.__get__» descrGet; rw [dga_obj]; refine wpAny_bind (wpAny_pure ?_))
  (unfold descrGetter descrCheckInstance descrNameAndClass isInstance; simp only [KF.owner_class]; repeat lk)
  have hz:Code.quiet (.builtin "object.__class__" ⟨[.ref e],[]⟩)=true:=Code.quiet_builtin _ (by decide +kernel)
  (refine ⟨hz,codeAny_builtin KF.entry_class ?_⟩; unfold Builtin.«object.__class__» shownTypeOf; repeat lk)
  exact h
theorem ex_check {nameV:Value} {M:Model} {Q:Unit→Shared→Prop} (X:K.In s.heap) (x:ExC K C) (I:ExAt e C s.heap) (hq:Q () s):wpAny M A (checkBuiltinCall "BaseException.__getattribute__" ⟨[.ref e,nameV],[]⟩) Q E s:=by
  have hk:builtinKind "BaseException.__getattribute__"=some .slot:=by decide +kernel
  have hsplit:splitId "BaseException.__getattribute__"=some ("BaseException", "__getattribute__"):=by decide +kernel
  have ha:=F.args_bexc_ga (.ref e) nameV
  obtain ⟨hh,g,dr,t,os⟩:=s
  have L0:=I.type (M:=M)
  have L1:=looks_mroIn (M:=M) X x.hb
  simp only [checkBuiltinCall,hk,hsplit]
  refine wpAny_bind ?_
  · unfold isInstance
    refine wpAny_bind (L0.at (L1.at ?_))
    repeat (first | wp_step)
    exact hq
theorem ex_entry {tk:Tok} {Q:Fin→Shared→Prop} (X:K.In s.heap) (x:ExC K C) (I:ExAt e C s.heap) (hq:Q (.done (.ret (.ref C))) s) :
    wpAny (model prog w) A (Builtin.«object.__getattribute__» ⟨[.ref e,.str "__class__" tk],[]⟩) Q E s:=by
  obtain ⟨hh,g,d,t,os⟩:=s
  have L0:=I.type (M:=model prog w)
  have L1:=ex_find (e:=e) (M:=model prog w) X x
  refine wpAny_bind (wpAny_pure (wpAny_bind (wpAny_pure (wpAny_bind (L0.at (wpAny_bind (L1.at ?_)))))))
  show wpAny _ _ (holding [_] (call _ [_,.ref e,.ref C])>>=ret) _ _ _
  exact wpAny_bind (wpAny_holding (wpAny_call (ex_get (s:=⟨hh,g,d,t,os⟩) X x I (wpAny_pure hq))))
theorem bga_bind (self:Value):bindSpecial (.builtin "BaseException.__getattribute__") self=pure (.builtin "BaseException.__getattribute__",[self]):=by
  have hk:builtinKind "BaseException.__getattribute__"=some .slot:=by decide +kernel
  have hop:withoutEnding? "BaseException.__getattribute__" "#opaque"=none:=by decide +kernel
  have hdat:withoutEnding? "BaseException.__getattribute__" "#data"=none:=by decide +kernel
  simp only [bindSpecial,typeOf,builtinType,hop,hdat,hk]; rfl
theorem ex_by {tk:Tok} {fill expr:Bool} {Q:Value→Shared→Prop} (X:K.In s.heap) (x:ExC K C) (I:ExAt e C s.heap) (hq:Q (.ref C) s) :
    wpAny (model prog w) A (getAttrBy (.ref e) (.str "__class__" tk) fill expr) Q E s:=by
  obtain ⟨hh,g,d,t,os⟩:=s
  have L0:=I.type (M:=model prog w)
  have L1:=looks_findIn (M:=model prog w) X x.ga
  have L2:=looks_findIn (M:=model prog w) X x.noga
  have hx0:(expr&&onTheHeap (Value.builtin "BaseException.__getattribute__"))=false:=by cases expr <;> rfl
  have hx2:(Value.builtin "BaseException.__getattribute__" == Value.builtin "object.__getattribute__")=false:=by decide +kernel
  have hx1:(onTheHeap (Value.ref C)&&Value.builtin "BaseException.__getattribute__" == Value.builtin "object.__getattribute__")=false:=by rw [hx2]; rfl
  unfold getAttrBy
  refine wpAny_holding (wpAny_bind (L0.at (wpAny_bind (L1.at ?_))))
  dsimp only
  rw [hx1,if_neg Bool.false_ne_true]
  unfold getAttrByItsOwn
  refine wpAny_bind ?_
  show wpAny _ _ (typeLookup (.ref C) "__getattr__") _ _ _
  refine L2.at (wpAny_bind (wpAny_attempt (wpAny_holding ?_)))
  unfold callGetattribute boundAndCalled
  rw [hx0,if_neg Bool.false_ne_true,bga_bind]
  refine wpAny_bind (wpAny_pure ?_)
  refine wpAny_call (codeAny_call_builtin (by decide +kernel) F.entry_bexc_ga (ex_check (s:=⟨hh,g,d,t,os⟩) X x I (ex_entry (s:=⟨hh,g,d,t,os⟩) X x I ?_)))
  show wpAny _ _ (handedOut (.ref C)) _ _ _
  exact wpAny_pure hq
theorem ex_ca {Q:Option Value→Shared→Prop} (X:K.In s.heap) (x:ExC K C) (I:ExAt e C s.heap) (hq:Q (some (.ref C)) { s with toks:=s.toks + 1 }):wpAny (model prog w) A (getAttr? (.ref e) "__class__") Q E s:=by
  obtain ⟨hh,g,d,t,os⟩:=s
  unfold getAttr? getAttrBy?
  refine wpAny_bind (wpAny_mkText (wpAny_bind (wpAny_attempt ?_)))
  exact ex_by (s:=⟨hh,g,d,t + 1,os⟩) X x I (wpAny_pure hq)
theorem kitx_exc (x:ExC K C):KitX K (.ref e) (.ref C) (ExAt e C) where
  ty:=fun _ _ _ p=>p.type
  it:=fun _ _ X _=>by
    obtain ⟨cd,a,b⟩:=Option.bind_eq_some_iff.mp x.hm
    unfold clsIn at a
    split at a
    · rename_i c' d' cd' sl' ho
      intro A' Q' E' s' k q
      unfold isType loadHead
      exact wpAny_bind (wpAny_loadPart (k _ _ (X _ _ ho)) (wpAny_pure q))
    · cases a
  ne:=fun h tp dd its n sl X htp=>by
    obtain ⟨cd,a,b⟩:=Option.bind_eq_some_iff.mp x.hm
    refine Bool.eq_false_iff.mpr fun q=>?_
    have e:C=tp:=Value.ref.inj (beq_iff_eq.mp q)
    subst e
    unfold clsIn at a
    split at a
    · rename_i c' d' cd' sl' ho
      rw [X _ _ ho] at htp
      cases htp
    · cases a
  ca:=fun X p k=>ex_ca X x p k
end
end L2
namespace L2
open PySem PySem.Spec PySem.Calls PySem.W PyProof.Rows
theorem ObjOk.isAt {P:Program} {w:World} {H:Hp} {h:Heap} {a:Addr} {o:HO} (x:ObjOk P w H h a o):∃ u,h.get? a=some u:=by
  cases o with
  | lst xs=>obtain ⟨_,_,_,_,e⟩:=x; exact ⟨_,e⟩
  | tup xs=>obtain ⟨_,_,_,⟨_,e,_⟩,_⟩:=x; exact ⟨_,e⟩
  | dK kvs=>obtain ⟨_,_,_,_,_,_,_,e,_⟩:=x; exact ⟨_,e⟩
  | dT kvs=>obtain ⟨_,_,_,_,_,_,_,e,_⟩:=x; exact ⟨_,e⟩
  | set S n=>obtain ⟨_,_,_,_,e,_⟩:=x; exact ⟨_,e⟩
  | ins C dx fs=>obtain ⟨_,_,_,e,_⟩:=x; exact ⟨_,e⟩
  | own y=>exact x
  | xd fs=>obtain ⟨_,⟨_,_,_,e,_⟩,_⟩:=x; exact ⟨_,e⟩
  | rng lo hi=>obtain ⟨_,_,_,e⟩:=x; exact ⟨_,e⟩
  | frz ob u=>obtain ⟨e,_⟩:=x; exact ⟨_,e⟩
  | tbl ps=>exact ⟨_,(show h.get? a=some _ from x)⟩
  | met f y=>exact ⟨_,(show h.get? a=some _ from x)⟩
  | ext φ=>exact x.2.1
theorem HOk.miss {P:Program} {w:World} {H:Hp} {h:Heap} {a:Addr} (x:HOk P w H h) (n:h.get? a=none):H a=none:=by
  cases q:H a with
  | none=>rfl
  | some o=>
    obtain ⟨u,e⟩:=(x a o q).isAt
    rw [n] at e
    cases e
structure Thr (P:Program) (w:World) (C:Addr) (outer:List Env) (H:Hp) (s:Shared) (a:Addr) (a0:Value) (B:Heap) (H':Hp) (s':Shared):Prop where
  os:s'.os=s.os
  bare:AllBare s'.gens
  keep:∀ b o,s.heap.get? b=some o→H b=none→b∉frs outer→B.get? b=some o
  slot:∀ b o,s.heap.get? b=some o→H b=none→b∈frs outer→(∀ vs,o.data≠.fields vs)∧∃ sl,s'.heap.get? b=some { o with slots:=sl }
  free:∀ b o,s.heap.get? b=some o→H b=none→H' b=none
  there:∀ b o,s.heap.get? b=some o→b∉frs outer→∃ o',B.get? b=some o'
  tups:∀ b xs,H b=some (.tup xs)→H' b=some (.tup xs)
  frzs:∀ b o u,H b=some (.frz o u)→H' b=some (.frz o u)
  tbls:∀ b ps,H b=some (.tbl ps)→∃ more,H' b=some (.tbl (ps++more))
  hok:HOk P w H' B
  fly:Heap.FlyingW B outer a (.ref C) a0 s'.heap
theorem Thr.un {P:Program} {w:World} {C:Addr} {outer:List Env} {H:Hp} {s:Shared} {a:Addr} {a0:Value} {B:Heap} {H':Hp} {s':Shared} {h:Heap} (t:Thr P w C outer H s a a0 B H' s') (frf:∀ b∈frs outer,H b=none) (hb:B.StaysIn h) (hs:s'.heap.UpToSlots h) :
    Un (frs outer) [] H H' s.heap h where
  keep:=fun b o q n hf _=>hb _ _ (t.keep b o q n hf)
  slot:=fun b o q n hf _=>by
    obtain ⟨nf,sl,e1⟩:=t.slot b o q n hf
    obtain ⟨sl',e2⟩:=hs b _ e1 nf
    exact ⟨sl',e2⟩
  free:=fun b o q n _=>t.free b o q n
  there:=fun b o q _=>by
    by_cases hf:b∈frs outer
    · obtain ⟨nf,sl,e1⟩:=t.slot b o q (frf b hf) hf
      obtain ⟨sl',e2⟩:=hs b _ e1 nf
      exact ⟨_,e2⟩
    · obtain ⟨o',e⟩:=t.there b o q hf
      exact ⟨o',hb _ _ e⟩
  tups:=t.tups
  frzs:=t.frzs
  tbls:=t.tbls
section
variable {P:Program} {w:World} {K:PySem.W.Frag} {mg:Str→Option Value} {base:Heap} {N:List Str} {qual:Str} {scope:Scope} {f C:Addr} {cd:Value} {A:Around} {outer:List Env} {s:Shared} {H:Hp} {E:XK}
end
noncomputable def vErr:List Value:=[.type "ValueError",.type "Exception",.type "BaseException",.type "object"]
theorem exc_obj {K:PySem.W.Frag} {h:Heap} {C:Addr} (X:K.In h) (q:excIn K C vErr "ValueError.__new__"=true) :
    ∃ bm N nm qn bs hdct sn sub ab col dd k0 k1 k2 k3 k5 mN,h.get? C=some (excClassObj nm qn C N bs bm hdct sn sub ab col dd k0 k1 k2 k3 k5 "ValueError.__new__")∧h.Ns N mN∧mN "__init__"=none∧OwnTail h vErr bm:=by
  unfold excIn at q
  split at q
  case h_1 dd cd sl ho=>
    split at q
    case h_1 C' bm k0 k1 k2 k3 n k5 hm hs=>
      (rw [Bool.and_eq_true,Bool.and_eq_true,Bool.and_eq_true,Bool.and_eq_true,Bool.and_eq_true,beq_iff_eq,beq_iff_eq,beq_iff_eq] at q; obtain ⟨⟨⟨⟨⟨rfl,rfl⟩,hz⟩,ht⟩,hok⟩,hni⟩:=q)
      rcases cd with ⟨nm,bs,mro,ns,qn,hd,sn,sub,ab,col,del⟩
      have e1:mro=.ref C'::bm:=hm
      have e2:del=false:=by cases del with | false=>rfl | true=>cases hz
      have e3:sl=#[k0,k1,k2,k3,some (.builtin "ValueError.__new__"),k5]:=by rcases sl with ⟨l⟩; exact congrArg Array.mk hs
      rw [e1,e2,e3] at ho
      exact ⟨_,_,_,_,_,_,_,_,_,_,_,_,_,_,_,_,_,X _ _ ho,.of_isNs (isNs_of_in X hok),nsMap_none_of_in X hok hni,tail_of_in X ht⟩
    case h_2=>cases q
  case h_2=>cases q
noncomputable def Raises (X:Cx) (C:Addr) (R:Hp→Prop):Prop:=∀ (pins:List (Addr×Obj)) (σ:St) (H1:Hp) (s2:Shared) (h':Heap) (e:Addr) (vs:List Value),Inv X pins σ H1 s2→Heap.MadeExcOf s2.heap h' e (.ref C) vs→R H1→X.xe (.ref e) { s2 with heap:=h' }
theorem ps_raise {X:Cx} {C:Addr} {x t:Str} {i np p2 cpos pos} {R:Hp→Prop} (hc:X.calm=true) (hR:Raises X C R) (hg:Gl X x) (hm:X.mg x=some (.ref C)) (q:excIn X.K C vErr "ValueError.__new__"=true)
    (hd:(x == ("__debug__":Str))=false:=by decide) (hs:starEach [.Constant (.str t) i p2] X.env=[(false,eval (.Constant (.str t) i p2) X.env)]:=by rfl) :
    PS X (.Raise (some (.Call (.Name x np) [.Constant (.str t) i p2] [] cpos)) none pos) (fun _ _ H=>R H):=by
  intro pins s σ H D I h
  obtain ⟨bm,N,nm,qn,bs,hdct,sn,sub,ab,col,dd,k0,k1,k2,k3,k5,mN,hC,hN,hni,T⟩:=exc_obj I.mod.kin q
  refine wpAny_Raise_call_subT (C:=C) (nm:=nm) (q:=qn) (N:=N) (bs:=bs) (bm:=bm) (hdct:=hdct) (sn:=sn) (sub:=sub) (ab:=ab) (col:=col) (dd:=dd) (k0:=k0) (k1:=k1) (k2:=k2) (k3:=k3) (k5:=k5) F.excBase_ValueError (mN:=mN) (T.hasType rfl) (I.ok.hd hc) (by rw [hs]; rfl) hni (ld_glob I hg hm ⟨rfl,?_⟩ hd)
  have pa:PA X [.Constant (.str t) i p2] (tCons (tC (.str t)) tNil):=pa_cons pe_str pa_nil hs
  have go:=pa cpos pins s σ H (fun vs H1=>vs.length=1∧R H1) I ⟨rfl,h⟩
  rw [hs] at go ⊢
  refine Calls.evalArgs_plain (thnG go fun us s1 vs H1 I1 r1 q1=>⟨rfl,?_,I1.bk _ _ hC,hN.keeps I1.bk,T.keeps I1.bk,fun h' e hx=>hR pins σ H1 s1 h' e us I1 hx q1.2⟩)
  rw [← r1.length,q1.1]
  decide
noncomputable def Cx.caught (X:Cx) (a:Addr) (ob:Obj):Cx:={ X with A:=X.A.mark (some (.ref a)),calm:=false,pn:=(a,ob)::X.pn,xe:=fun _ _=>False }
section
variable {X:Cx} {a C:Addr} {ob:Obj} {pins:List (Addr×Obj)} {σ:St} {H:Hp} {s:Shared}
theorem Inv.caught (I:Inv X pins σ H s) (h1:s.heap.get? a=some ob) (h2:H a=none) (h3:a≠X.env.locals) (h4:a∉X.fs) (h5:∀ v,ob.data≠.cell v):Inv (X.caught a ob) pins σ H s:=
  ⟨⟨I.ok.mod,I.ok.kind,I.ok.glob,I.ok.blt,I.ok.above,I.ok.inj,I.ok.has,I.ok.cab,(fun z=>nomatch z),I.ok.frames,I.ok.stk,I.ok.exf,I.ok.bs,I.ok.bsz,I.ok.noex,I.ok.exfs,I.ok.funs,I.ok.frf⟩,
   I.os,I.bare,I.base,I.loc,I.cell,I.free,I.freeC,fun p hp=>(List.mem_cons.mp hp).elim (fun z=>z ▸ ⟨h1,h2,h3,h4,h5⟩) (I.pin p),I.hok,I.len⟩
theorem Inv.uncaught (ok:X.Ok) (I:Inv (X.caught a ob) pins σ H s):Inv X pins σ H s:=⟨ok,I.os,I.bare,I.base,I.loc,I.cell,I.free,I.freeC,fun p hp=>I.pin p (List.mem_cons_of_mem _ hp),I.hok,I.len⟩
theorem Inv.atEx (I:Inv (X.caught a ob) pins σ H s):s.heap.get? a=some ob:=(I.pin (a,ob) (List.mem_cons_self ..)).1
theorem goes_ok {M:Model} {A:Around} {E:Value→Shared→Prop} {i:Nat} {x:Str} {pos:Pos} {Q:Unit→Shared→Prop} (I:Inv X pins σ H s) (hN:X.N.Nodup) (hi:X.N[i]?=some x) (hk:X.env.scope.names.lookup x=some .local) (h:∀ s',Inv X pins (σ.set i none) H s'→Q () s') :
    wpAny M A (do bindName X.env x .none; unbindBehindTheSuite X.env x pos) Q E s:=by
  obtain ⟨m,hn,hl⟩:=id I.loc
  have hcls:(X.env.scope.kind == .class||(X.env.scope.kind == .module&&X.env.locals != X.env.globals))=false:=by rw [I.ok.kind]; rfl
  refine wpAny_nameGoes_keeps hk hn hcls fun h' v hn' hs=>?_
  have ne:∀ b o,X.s₀.heap.get? b=some o→b≠X.env.locals:=fun b o e=>Nat.ne_of_lt (Nat.lt_of_lt_of_le (Heap.lt_size e) I.ok.above)
  refine h _ ⟨I.ok,I.os,I.bare,⟨fun b o e n hb hx=>(hs.2 b (ne b o e)).trans (I.base.keep b o e n hb hx),fun b o e n hb hx=>(I.base.slot b o e n hb hx).imp fun sl e1=>(hs.2 b (ne b o e)).trans e1,I.base.free,fun b o e hx=>(I.base.there b o e hx).imp fun o' e1=>(hs.2 b (ne b o e)).trans e1,I.base.tups,I.base.frzs,I.base.tbls⟩,
    ⟨_,hn',fun j y v' e1 e2 e3=>?_⟩,fun y c e=>(I.cell y c e).imp fun w' z=>z.sameBut hs (I.cne y c e),I.free,I.freeC,fun p hp=>?_,fun b u q=>?_,by simpa using I.len⟩
  · have hj:j≠i:=fun z=>by
      subst z
      rw [List.getElem?_set] at e2
      split at e2
      · split at e2 <;> cases e2
      · rename_i z; exact z rfl
    rw [List.getElem?_set_ne (Ne.symm hj)] at e2
    obtain ⟨u',r',q⟩:=hl j y v' e1 e2 e3
    refine ⟨u',r',q.imp (fun z=>⟨z.1,?_⟩) fun ⟨k,c,e,z⟩=>⟨k,c,e,z.sameBut hs (I.cne y c e)⟩⟩
    have ny:y≠x:=fun e=>hj (nodup_ix hN e1 (e ▸ hi))
    show (if y=x then v else m y)=_
    rw [if_neg ny]
    exact z.2
  · obtain ⟨e,n,nl,nf,d⟩:=I.pin p hp
    exact ⟨(hs.2 p.1 nl).trans e,n,nl,nf,d⟩
  · refine (I.hok b u q).stay (fun c w' hc e=>(hs.2 c ?_).trans e) (fun _ q=>q) fun _ _ q=>q
    rintro rfl
    rcases hc with rfl | hc
    · rw [I.free] at q; cases q
    · rw [I.free] at hc; cases hc
theorem call_isX {c:V} {cv:Value} {b:Bool} (x:ExC X.K C) (hc:ob.cls=.ref C) (hcv:∀ u,RelV c u→u=cv) (e:kitOne X.K (.ref C) cv=some b):CallR (X.caught a ob) (.builtin "isinstance") (fun xs H Q=>xs=[.ref a,c]∧Q (.bl b) H):=by
  intro pins s σ H xs us Q I r h
  obtain ⟨rfl,q⟩:=h
  obtain ⟨u,w',rfl,r1,r2⟩:=vals2 r
  cases (show u=Value.ref a from r1)
  cases hcv _ r2
  exact kia_one (kitx_exc x) I.kIn ⟨ob,I.atEx,hc⟩ e (fun z=>nomatch z) fun tk=>⟨.bl b,H,I.tok _,rfl,q⟩
theorem call_isXT {cs:List V} {cvs:List Value} {b:Bool} (x:ExC X.K C) (hc:ob.cls=.ref C) (hcv:∀ us,Vals cs us→us=cvs) (e:kitAny X.K (.ref C) cvs=some b):CallR (X.caught a ob) (.builtin "isinstance") (fun xs H Q=>∃ tp,xs=[.ref a,.ref tp]∧H tp=some (.tup cs)∧Q (.bl b) H):=by
  intro pins s σ H xs us Q I r h
  obtain ⟨tp,rfl,ht,q⟩:=h
  obtain ⟨u,w',rfl,r1,r2⟩:=vals2 r
  cases (show u=Value.ref a from r1)
  cases (show w'=Value.ref tp from r2)
  obtain ⟨_,its,rv,⟨ot,h1,h2,n,h3⟩,_⟩:=(show ObjOk _ _ H s.heap tp (.tup cs) from I.hok tp _ ht)
  cases hcv _ rv
  rcases ot with ⟨oc,od,oda,osl⟩
  cases (show oc=_ from h2)
  cases (show oda=_ from h3)
  exact kia_tup (kitx_exc x) I.kIn ⟨ob,I.atEx,hc⟩ h1 e (fun z=>nomatch z) fun tk=>⟨.bl b,H,I.tok _,rfl,q⟩
end
section
variable {X:Cx} {a C:Addr} {ob:Obj} {pos p p1 p2 p3 p4:Pos}
end
theorem DInv.other {K:PySem.W.Frag} {P F H:Hp} {ρ:DF} {σ σ':St} {i:Nat} (I:DInv K P F H ρ σ) (hi:ρ[i]?=some none) (hl:σ'.length=σ.length) (h:∀ j,j≠i→σ'[j]?=σ[j]?):DInv K P F H ρ σ':=
  ⟨I.toDHp,I.len.trans hl.symm,by
    obtain ⟨O,k⟩:=I.rep
    refine ⟨O,fun j x hx=>?_⟩
    obtain ⟨v,h1,h2⟩:=k j x hx
    exact ⟨v,(h j fun z=>by subst z; rw [hi] at hx; cases hx).trans h1,h2⟩⟩
end L2
namespace L2
open PySem PySem.Spec PyProof.Rows
section
variable {X:Cx} {o e e2:Expr} {pos apos cpos:Pos}
end
structure IsC (K:PySem.W.Frag) (C:Addr):Prop where
  ha:PySem.W.findIn K (.ref C) "__class__"=some (some (.builtin "object.__class__"))
  hn:PySem.W.specialIn K (.builtin "object.__class__") "__get__"=some (some (.builtin "getset_descriptor.__get__"))
  htk:PySem.W.takesIn K (.builtin "object.__class__")=some true
  hm:PySem.W.mroIn K C (.type "object")=some true
  one:PySem.W.kitOne K (.ref C) (.ref C)=some true
noncomputable def isCD (C:Addr):D→Option D
  | .ins C' _=>if C'=C then some (.bl true) else none
  | _=>none
section
variable {X:Cx} {a:Expr} {pos p:Pos} {fa:DF→Option D}
theorem call_isC {C:Addr} (cl:Cls X.K C) (ic:IsC X.K C):CallR X (.builtin "isinstance") (fun xs H Q=>∃ l dx fs,xs=[.ref l,.ref C]∧H l=some (.ins C dx fs)∧Q (.bl true) H):=by
  intro pins s σ H xs us Q I r h
  obtain ⟨l,dx,fs,rfl,hl,q⟩:=h
  obtain ⟨u,w',rfl,r1,r2⟩:=vals2 r
  cases (show w'=Value.ref C from r2)
  exact isinst_ok I r1 (.ins hl cl ic.ha ic.hn ic.htk ic.hm) ic.one fun tk=>⟨.bl true,H,I.tok _,rfl,q⟩
theorem pd_isC {x:Str} {C:Addr} {p1:Pos} (cl:Cls X.K C) (ic:IsC X.K C) (hg:Gl X "isinstance") (hm:X.mg "isinstance"=none) (hgt:Gl X x) (hmt:X.mg x=some (.ref C)) (ha:PDN X a fa) (hd:(x == ("__debug__":Str))=false:=by decide)
    (hs:starEach [a,.Name x p1] X.env=[(false,eval a X.env),(false,eval (.Name x p1) X.env)]:=by rfl) (hs2:starEach [.Name x p1] X.env=[(false,eval (.Name x p1) X.env)]:=by rfl) (hpl:(backTo pos (starEach [.Name x p1] X.env)).any (·.1)=false:=by rfl) :
    PDE X (.Call (.Name "isinstance" p) [a,.Name x p1] [] pos) (d1 (isCD C) fa):=
  (pe_callB (call_isC cl ic) hg hm boot_isinstance (pa_cons ha (pa_cons (pe_glob (v:=.ref C) hgt hmt rfl hd) pa_nil hs2) (by rw [hs,hs2])) (by decide) (by decide) (by rw [hs,hs2]) hpl).imp fun σ H Q=>un7 fun P F ρ d hf I k=>by
    unfold d1 at hf
    cases q:fa ρ with
    | none=>rw [q] at hf; cases hf
    | some dx=>
      rw [q,Option.bind_some] at hf
      cases dx with
      | ins C' fs=>
        have hf':(if C'=C then some (D.bl true) else none)=some d:=hf
        split at hf'
        · rename_i hC
          subst hC
          cases hf'
          refine ⟨P,F,ρ,_,q,I,fun y F1 H1 e1 r1=>?_⟩
          cases r1 with
          | ins h1 h2=>exact ⟨_,_,_,rfl,h1,k _ F1 H1 e1 .bl⟩
        · cases hf'
      | _=>cases hf
end
theorem vals_refs:∀ (as:List Addr) (us:List Value),Vals (as.map V.ref) us→us=as.map Value.ref
  | [],_,.nil=>rfl
  | _::as,_,.cons r h=>by
    cases (show _=Value.ref _ from r)
    exact congrArg _ (vals_refs as _ h)
theorem pa_r0 {X:Cx}:PA X [] (fun _ H Q=>Q [] H):=pa_nil
theorem pa_r1 {X:Cx} {x:Str} {a:Addr} {p:Pos} {es:List Expr} {cs:List V} (hg:Gl X x) (hm:X.mg x=some (.ref a)) (h:PA X es (fun _ H Q=>Q cs H)) (hd:(x == ("__debug__":Str))=false:=by decide)
    (hs:starEach (.Name x p::es) X.env=(false,eval (.Name x p) X.env)::starEach es X.env:=by rfl):PA X (.Name x p::es) (fun _ H Q=>Q (.ref a::cs) H):=pa_cons (pe_glob (v:=.ref a) hg hm rfl hd) h hs
section
variable {X:Cx} {a b:Expr} {pos:Pos}
end
end L2
namespace L2
open PySem PySem.Spec PySem.Calls PySem.W PyProof.Rows
end L2
namespace L2
open PySem PySem.Spec PyProof.Rows
section
variable {X:Cx} {a b:Expr} {pos:Pos}
end
end L2
namespace L2
open PySem PySem.Spec PySem.Calls PySem.W PyProof.Rows
noncomputable def CXc (P:Program) (w:World) (cl:Nat→Addr):CXT:=fun outer H s E e s'=>∃ k a a0 B H',e=.ref a∧Thr P w (cl k) outer H s a a0 B H' s'∧E (.ref (cl k)) none H'
section
variable {P:Program} {w:World} {K:PySem.W.Frag} {mg:Str→Option Value} {base:Heap} {N:List Str} {qual:Str} {scope:Scope} {f:Addr} {cl:Nat→Addr} {cd:Value} {A:Around} {outer:List Env} {s:Shared} {H:Hp} {E:XK}
theorem Inv.throwsC {pins:List (Addr×Obj)} {σ:St} {H1:Hp} {s2:Shared} {h':Heap} {e:Addr} {vs:List Value} (k:Nat) (I:Inv (cxOf (CXc P w cl) P w K mg base N qual scope f cd A outer s H E) pins σ H1 s2) (hx:Heap.MadeExcOf s2.heap h' e (.ref (cl k)) vs) (hE:E (.ref (cl k)) none H1) :
    (cxOf (CXc P w cl) P w K mg base N qual scope f cd A outer s H E).xe (.ref e) { s2 with heap:=h' }:=by
  have nil:∀ b:Addr,b∉([]:List Addr):=fun b z=>absurd z (by simp)
  have hin:∀ env∈(cxOf (CXc P w cl) P w K mg base N qual scope f cd A outer s H E).stack,∀ b,env.frame=some b→b∈frs (cxOf (CXc P w cl) P w K mg base N qual scope f cd A outer s H E).stack:=fun env he b hb=>List.mem_filterMap.mpr ⟨env,he,hb⟩
  have nS:∀ b o,s.heap.get? b=some o→b∉frs outer→b∉frs (cxOf (CXc P w cl) P w K mg base N qual scope f cd A outer s H E).stack:=fun b o q nf z=>by
    rcases List.mem_cons.mp (I.stkSub b z) with z | z
    · exact absurd z (Nat.ne_of_lt (Nat.lt_of_lt_of_le (Heap.lt_size q) I.ok.above))
    · exact nf z
  refine wpAny_leaves_madeW (base:=hideAll s2.heap (frs (cxOf (CXc P w cl) P w K mg base N qual scope f cd A outer s H E).stack)) (h:=s2.heap) (env:=(cxOf (CXc P w cl) P w K mg base N qual scope f cd A outer s H E).env) (outer:=outer) I.ok.frames rfl (fun b o q=>of_hideAll _ q) (funFrames_hide I.stack hin) hx fun h'' t fly _ _ up=>?_
  refine ⟨k,e,.ref t,_,H1,rfl,⟨I.os,I.bare,fun b o q n nf=>?_,fun b o q n nf=>?_,fun b o q n=>I.base.free b o q n (nil b),fun b o q nf=>?_,I.base.tups,I.base.frzs,I.base.tbls,fun b o q=>?_,fly⟩,hE⟩
  · exact hideAll_get _ (I.base.keep b o q n nf (nil b)) (nS b o q nf)
  · obtain ⟨sl,e1⟩:=I.base.slot b o q n nf (nil b)
    obtain ⟨_,o',ho',nf'⟩:=I.ok.funs.mem nf
    have ho2:s.heap.get? b=some o':=ho'
    rw [q] at ho2
    cases ho2
    obtain ⟨sl',e2⟩:=up b _ (hx.keeps _ _ e1) nf'
    exact ⟨nf',sl',e2⟩
  · obtain ⟨o',e1⟩:=I.base.there b o q (nil b)
    exact ⟨o',hideAll_get _ e1 (nS b o q nf)⟩
  · refine (I.hok b o q).stay (fun c u hc e1=>hideAll_get _ e1 fun z=>?_) (fun _ z=>z) fun _ _ z=>z
    have nz:=I.stkFree c z
    rcases hc with rfl | hc
    · rw [nz] at q; cases q
    · rw [nz] at hc; cases hc
theorem Inv.passesC {pins:List (Addr×Obj)} {σ:St} {H1 H2:Hp} {s1 s2:Shared} {a:Addr} {a0:Value} {B:Heap} (k:Nat) (I:Inv (cxOf (CXc P w cl) P w K mg base N qual scope f cd A outer s H E) pins σ H1 s1) (t:Thr P w (cl k) (cxOf (CXc P w cl) P w K mg base N qual scope f cd A outer s H E).stack H1 s1 a a0 B H2 s2) (hE:E (.ref (cl k)) none H2) :
    (cxOf (CXc P w cl) P w K mg base N qual scope f cd A outer s H E).xe (.ref a) s2:=by
  have nil:∀ b:Addr,b∉([]:List Addr):=fun b z=>absurd z (by simp)
  have nS:∀ b o,s.heap.get? b=some o→b∉frs outer→b∉frs (cxOf (CXc P w cl) P w K mg base N qual scope f cd A outer s H E).stack:=fun b o q nf z=>by
    rcases List.mem_cons.mp (I.stkSub b z) with z | z
    · exact absurd z (Nat.ne_of_lt (Nat.lt_of_lt_of_le (Heap.lt_size q) I.ok.above))
    · exact nf z
  have iS:∀ b,b∈frs outer→b∈frs (cxOf (CXc P w cl) P w K mg base N qual scope f cd A outer s H E).stack:=fun b z=>by
    obtain ⟨e,he,hb⟩:=List.mem_filterMap.mp z
    exact List.mem_filterMap.mpr ⟨e,List.mem_cons_of_mem _ he,hb⟩
  have at1:∀ b o,s.heap.get? b=some o→H b=none→∃ o',s1.heap.get? b=some o':=fun b o q n=>by
    by_cases hf:b∈frs outer
    · obtain ⟨sl,e1⟩:=I.base.slot b o q n hf (nil b)
      exact ⟨_,e1⟩
    · exact ⟨_,I.base.keep b o q n hf (nil b)⟩
  refine wpAny_leaves_onW (base:=B) (env:=(cxOf (CXc P w cl) P w K mg base N qual scope f cd A outer s H E).env) (outer:=outer) (cls:=.ref (cl k)) (a0:=a0) I.ok.frames rfl t.fly fun h' fly up=>?_
  refine ⟨k,a,a0,B,H2,rfl,⟨t.os.trans I.os,t.bare,fun b o q n nf=>?_,fun b o q n nf=>?_,fun b o q n=>?_,fun b o q nf=>?_,fun b xs e=>t.tups b xs (I.base.tups b xs e),fun b o u e=>t.frzs b o u (I.base.frzs b o u e),fun b ps e=>?_,t.hok,fly⟩,hE⟩
  · exact t.keep b o (I.base.keep b o q n nf (nil b)) (I.base.free b o q n (nil b)) (nS b o q nf)
  · obtain ⟨sl,e1⟩:=I.base.slot b o q n nf (nil b)
    obtain ⟨nf',sl',e2⟩:=t.slot b _ e1 (I.base.free b o q n (nil b)) (iS b nf)
    obtain ⟨sl'',e3⟩:=up b _ e2 nf'
    exact ⟨nf',sl'',e3⟩
  · obtain ⟨o',e1⟩:=at1 b o q n
    exact t.free b o' e1 (I.base.free b o q n (nil b))
  · obtain ⟨o',e1⟩:=I.base.there b o q (nil b)
    exact t.there b o' e1 (nS b o q nf)
  · obtain ⟨m1,e1⟩:=I.base.tbls b ps e
    obtain ⟨m2,e2⟩:=t.tbls b _ e1
    exact ⟨m1++m2,by rw [← Array.append_assoc]; exact e2⟩
theorem passC:Passes (CXc P w cl) (cxOf (CXc P w cl) P w K mg base N qual scope f cd A outer s H E) E:=fun _ _ _ _ _ _ I h=>by
  obtain ⟨k,a,a0,B,H',rfl,t,hE⟩:=h
  exact I.passesC k t hE
theorem ownC:PassesOwn (model P w) (cxOf (CXc P w cl) P w K mg base N qual scope f cd A outer s H E).A (cxOf (CXc P w cl) P w K mg base N qual scope f cd A outer s H E).env (cxOf (CXc P w cl) P w K mg base N qual scope f cd A outer s H E).xe:=PassesOwn.leaving
theorem raisesC (k:Nat):Raises (cxOf (CXc P w cl) P w K mg base N qual scope f cd A outer s H E) (cl k) fun H'=>E (.ref (cl k)) none H':=fun _ _ _ _ _ _ _ I hx hE=>I.throwsC k hx hE
end
inductive XR where
  | go (r:RES)
  | ex (k:Nat)
noncomputable def EndsX (K:PySem.W.Frag) (cl:Nat→Addr) (E:XK) (P F:Hp) (D:Ends):XR→Prop
  | .go r=>EndsD K P F D r
  | .ex k=>∀ F' H',Same F F'→DHp P F' H'→E (.ref (cl k)) none H'
theorem EndsX.ext {K:PySem.W.Frag} {cl:Nat→Addr} {E:XK} {P F F1:Hp} {D:Ends} {r:XR} (h:EndsX K cl E P F D r) (e:Same F F1):EndsX K cl E P F1 D r:=by
  cases r with
  | go r=>exact EndsD.ext h e
  | ex k=>exact fun F' H' e' hp=>h F' H' (e.trans e') hp
noncomputable def tSX (K:PySem.W.Frag) (cl:Nat→Addr) (E:XK) (g:DF→Option XR):TS:=fun D σ H=>∃ P F ρ r,g ρ=some r∧DInv K P F H ρ σ∧EndsX K cl E P F D r
noncomputable def PX1 (X:Cx) (cl:Nat→Addr) (E:XK) (st:Stmt) (g:DF→Option XR):Prop:=PS X st (tSX X.K cl E g)
noncomputable def PXS (X:Cx) (cl:Nat→Addr) (E:XK) (sts:List Stmt) (g:DF→Option XR):Prop:=PSs X sts (tSX X.K cl E g)
noncomputable def xNx:DF→Option XR:=fun ρ=>some (.go (.nx ρ))
noncomputable def xEx (k:Nat):DF→Option XR:=fun _=>some (.ex k)
noncomputable def xSeq (g h:DF→Option XR):DF→Option XR:=fun ρ=>match g ρ with
  | some (.go (.nx ρ'))=>h ρ'
  | r=>r
noncomputable def xIf (c:DF→Option Bool) (g h:DF→Option XR):DF→Option XR:=fun ρ=>(c ρ).bind fun b=>if b=true then g ρ else h ρ
noncomputable def forX (st:D→DF→Option DF) (body:DF→Option XR):List D→DF→Option XR
  | [],ρ=>some (.go (.nx ρ))
  | d::ds,ρ=>match st d ρ with
    | none=>none
    | some ρ1=>match body ρ1 with
      | some (.go (.nx ρ'))=>forX st body ds ρ'
      | some (.go (.ct ρ'))=>forX st body ds ρ'
      | some (.go (.bk ρ'))=>some (.go (.nx ρ'))
      | r=>r
noncomputable def xFor (it:DF→Option (List D)) (st:D→DF→Option DF) (body:DF→Option XR):DF→Option XR:=fun ρ=>(it ρ).bind fun ds=>forX st body ds ρ
section
variable {X:Cx} {cl:Nat→Addr} {E:XK} {st:Stmt} {rest sts:List Stmt} {pos:Pos}
theorem pxs_nil:PXS X cl E [] xNx:=PSs.imp pss_nil fun D σ H=>un7 fun P F ρ r hg I k=>by
  cases hg
  exact k σ F H (Same.refl _) I
theorem pxs_cons {g h:DF→Option XR} (h1:PX1 X cl E st g) (h2:PXS X cl E rest h):PXS X cl E (st::rest) (xSeq g h):=PSs.imp (pss_cons h1 h2) fun D σ H=>un7 fun P F ρ r hg I k=>by
  unfold xSeq at hg
  split at hg
  · rename_i ρ' q
    exact ⟨P,F,ρ,_,q,I,fun σ' F' H' e I'=>⟨P,F',ρ',r,hg,I',k.ext e⟩⟩
  · rename_i q
    refine ⟨P,F,ρ,r,hg,I,?_⟩
    cases r with
    | ex k'=>exact k
    | go r=>
      cases r with
      | nx ρ'=>exact absurd hg (q ρ')
      | bk ρ=>exact k
      | ct ρ=>exact k
      | rt x ρ=>exact k
theorem pxs_one {g:DF→Option XR} (h1:PX1 X cl E st g):PXS X cl E [st] g:=PSs.imp (pss_one h1) fun _ _ _ q=>q
theorem px_if {c:Expr} {a b:List Stmt} {fc:DF→Option Bool} {g h:DF→Option XR} (hc:PDT X c fc) (ha:PXS X cl E a g) (hb:PXS X cl E b h):PX1 X cl E (.If c a b pos) (xIf fc g h):=PS.imp (ps_if hc ha hb) fun D σ H=>un7 fun P F ρ r hg I k=>by
  unfold xIf at hg
  cases q:fc ρ with
  | none=>rw [q] at hg; cases hg
  | some b=>
    rw [q,Option.bind_some] at hg
    refine ⟨P,F,ρ,b,q,I,fun F' H' ev=>?_⟩
    cases b with
    | true=>
      rw [if_pos rfl] at hg ⊢
      exact ⟨P,F',ρ,r,hg,I.evo ev,k.ext ev.ext⟩
    | false=>
      rw [if_neg Bool.false_ne_true] at hg ⊢
      exact ⟨P,F',ρ,r,hg,I.evo ev,k.ext ev.ext⟩
theorem px_raise {k:Nat} {x t:Str} {i np p2 cpos} (hc:X.calm=true) (hR:Raises X (cl k) fun H'=>E (.ref (cl k)) none H') (hg:Gl X x) (hm:X.mg x=some (.ref (cl k))) (q:excIn X.K (cl k) vErr "ValueError.__new__"=true)
    (hd:(x == ("__debug__":Str))=false:=by decide) (hs:starEach [.Constant (.str t) i p2] X.env=[(false,eval (.Constant (.str t) i p2) X.env)]:=by rfl) :
    PX1 X cl E (.Raise (some (.Call (.Name x np) [.Constant (.str t) i p2] [] cpos)) none pos) (xEx k):=PS.imp (ps_raise hc hR hg hm q hd hs) fun D σ H=>un7 fun P F ρ r hf I kk=>by
  cases hf
  exact kk F H (Same.refl _) I.toDHp
theorem px_for {tg iter:Expr} {body:List Stmt} {f:DF→Option (List D)} {is:List Nat} {stt:D→DF→Option DF} {g:DF→Option XR} (hp:PassesOwn (model X.prog X.w) X.A X.env X.xe) (hc:X.calm=true) (hi:PDI X tg iter f) (hg:PDG X tg is stt) (hb:PXS X cl E body g)
    (hs:∀ x,foldedSetIterable iter X.env x=pure x:=by intro _; rfl):PX1 X cl E (.For tg iter body [] pos) (xFor f stt g):=PS.imp (ps_for hp hc hi hg hb hs) fun D σ H=>un7 fun P F ρ r hr I k=>by
  unfold xFor at hr
  cases q:f ρ with
  | none=>rw [q] at hr; cases hr
  | some ds=>
    rw [q,Option.bind_some] at hr
    refine ⟨P,F,ρ,ds,q,I,fun J F1 H1 ev ok=>?_⟩
    refine ⟨fun i m σ' H'=>m=ds.length - i∧i≤ds.length∧∃ F' ρ',Same F1 F'∧DInv X.K P F' H' ρ' σ'∧forX stt g (ds.drop i) ρ'=some r,⟨_,rfl,Nat.zero_le _,F1,ρ,Same.refl _,I.evo ev,hr⟩,?_⟩
    rintro i m σ' H' ⟨rfl,hil,F',ρ',se,I',hf⟩
    obtain ⟨ok1,ok2⟩:=ok F' H' se I'.toDHp i
    by_cases hlt:i < ds.length
    · have hd:ds[i]?=some ds[i]:=List.getElem?_eq_getElem hlt
      obtain ⟨go,yl⟩:=ok1 _ hd
      have hdrop:ds.drop i=ds[i]::ds.drop (i + 1):=List.drop_eq_getElem_cons hlt
      rw [hdrop] at hf
      unfold forX at hf
      cases hst:stt ds[i] ρ' with
      | none=>rw [hst] at hf; cases hf
      | some ρ1=>
        rw [hst] at hf
        dsimp only at hf
        refine .inr ⟨go,fun σ2 H2=>∃ F2 ρ2,Same F1 F2∧DInv X.K P F2 H2 ρ2 σ2∧forX stt g (ds.drop (i + 1)) ρ2=some r,fun σ2 H2 ⟨F2,ρ2,s2,I2,hf2⟩=>⟨ds.length - (i + 1),by omega,rfl,hlt,F2,ρ2,s2,I2,hf2⟩,fun x H2 hy=>?_⟩
        obtain ⟨F2,ev2,rx⟩:=yl x H2 hy
        refine ⟨P,F2,ρ',ds[i],ρ1,hst,I'.evo ev2,rx,fun σ3 F3 H3 ev3 I3 _ _=>?_⟩
        have s13:Same F1 F3:=se.trans (ev2.ext.trans ev3.ext)
        cases hb':g ρ1 with
        | none=>rw [hb'] at hf; cases hf
        | some res=>
          rw [hb'] at hf
          refine ⟨P,F3,ρ1,res,hb',I3,?_⟩
          cases res with
          | ex k'=>
            cases hf
            exact fun F4 H4 e4 hp4=>k F4 H4 (ev.ext.trans (s13.trans e4)) hp4
          | go res=>
          cases res with
          | nx ρ4=>exact fun σ4 F4 H4 e4 I4=>⟨F4,ρ4,s13.trans e4,I4,hf⟩
          | ct ρ4=>exact fun σ4 F4 H4 e4 I4=>⟨F4,ρ4,s13.trans e4,I4,hf⟩
          | bk ρ4=>
            cases hf
            exact fun σ4 F4 H4 e4 I4=>k σ4 F4 H4 (ev.ext.trans (s13.trans e4)) I4
          | rt x4 ρ4=>
            cases hf
            exact fun v4 σ4 F4 H4 e4 I4 r4=>k v4 σ4 F4 H4 (ev.ext.trans (s13.trans e4)) I4 r4
    · have hz:ds.drop i=[]:=List.drop_eq_nil_of_le (by omega)
      rw [hz] at hf
      cases hf
      exact .inl ⟨ok2 (by omega),k σ' F' H' (ev.ext.trans se) I'⟩
end
noncomputable def spXc (K:PySem.W.Frag) (cl:Nat→Addr) (rz:List DV→Option Nat):Sp:=fun vs H _ E=>∃ P F xs k,rz xs=some k∧DHp P F H∧DVs K P F H xs vs∧∀ F' H',Same F F'→DHp P F' H'→E (.ref (cl k)) none H'
noncomputable def rzX (n p:Nat) (g:DF→Option XR):List DV→Option Nat:=fun xs=>if xs.length=p then (match g (startD n p xs) with | some (.ex k)=>some k | _=>none) else none
theorem Fun.thrX {P:Program} {w:World} {K:PySem.W.Frag} {mg:Str→Option Value} {base:Heap} {x qual:Str} {st:Stmt} {f:Addr} {cl:Nat→Addr} {fd:FuncData} {N ps:List Str} {k:Nat} {g:DF→Option XR} (F:Fun K x qual st f fd) (S:FnScope N ps (defScope st))
    (h:∀ (cdv:Value) (A:Around) (outer:List Env) (s:Shared) (H:Hp) (E:XK),Room k (A.deeper (envOfC qual (defScope st) s.heap.objs.size f cdv))→PXS (cxOf (CXc P w cl) P w K mg base N qual (defScope st) f cdv A outer s H E) cl E (defBody st) g) :
    FnOk P w K mg base (CXc P w cl) (k + 1) f fd ps (spXc K cl (rzX N.length ps.length g)):=by
  have lens:∀ vs H Q E,spXc K cl (rzX N.length ps.length g) vs H Q E→vs.length=ps.length:=fun vs H Q E z=>by
    obtain ⟨P',F',xs,k',hz,hp,hv,_⟩:=z
    unfold rzX at hz
    split at hz
    · rename_i hl; rw [← hv.length]; exact hl
    · cases hz
  obtain ⟨oc,od,kV,doc,pm,an,cdv,ct,osl,rfl,lk,hcd⟩:=F.ex
  refine fn_of lk hcd S lens fun A outer s H vs Q E hr hsp=>⟨_,h cdv A outer s H E hr,?_⟩
  obtain ⟨P',F',xs,k',hz,hp,hv,hE⟩:=hsp
  unfold rzX at hz
  split at hz
  · rename_i hl
    split at hz
    · rename_i k2 qg
      cases hz
      exact ⟨P',F',_,_,qg,DInv.start N ps.length hp hv hl,hE⟩
    · cases hz
  · cases hz
noncomputable def xCall (g:DF→Option (List DV)) (rz:List DV→Option Nat):DF→Option XR:=fun ρ=>(g ρ).bind fun xs=>(rz xs).map .ex
theorem px_call {P:Program} {w:World} {K:PySem.W.Frag} {mg:Str→Option Value} {base:Heap} {N:List Str} {qual:Str} {scope:Scope} {f0 f:Addr} {cl:Nat→Addr} {cd:Value} {A:Around} {outer:List Env} {s:Shared} {H:Hp} {E:XK} {k:Nat} {fd:FuncData} {ps:List Str} {rz:List DV→Option Nat} {x:Str} {p pos p2:Pos} {e:Expr} {es:List Expr} {g:DF→Option (List DV)}
    (F:FnOk P w K mg base (CXc P w cl) k f fd ps (spXc K cl rz)) (hr:Room k (cxOf (CXc P w cl) P w K mg base N qual scope f0 cd A outer s H E).A) (hg:Gl (cxOf (CXc P w cl) P w K mg base N qual scope f0 cd A outer s H E) x) (hm:mg x=some (.ref f)) (hk:PySem.W.keepIn K (.ref f)=true) (hb:Binds K fd ps []) (ha:PDAV (cxOf (CXc P w cl) P w K mg base N qual scope f0 cd A outer s H E) (e::es) g)
    (hd:(x == ("__debug__":Str))=false:=by decide) (he:starEach (e::es) (cxOf (CXc P w cl) P w K mg base N qual scope f0 cd A outer s H E).env=(false,eval e (cxOf (CXc P w cl) P w K mg base N qual scope f0 cd A outer s H E).env)::starEach es (cxOf (CXc P w cl) P w K mg base N qual scope f0 cd A outer s H E).env:=by rfl) (hpl:(backTo pos (starEach es (cxOf (CXc P w cl) P w K mg base N qual scope f0 cd A outer s H E).env)).any (·.1)=false:=by rfl)
    (hs:swapsWith (.Call (.Name x p) (e::es) [] pos) none p2.line (cxOf (CXc P w cl) P w K mg base N qual scope f0 cd A outer s H E).env=pure false:=by rfl) :
    PX1 (cxOf (CXc P w cl) P w K mg base N qual scope f0 cd A outer s H E) cl E (.Expr (.Call (.Name x p) (e::es) [] pos) p2) (xCall g rz):=
  PS.imp (ps_expr (pe_call F hr hg hm hk hb .nil passC ha hd he hpl) hs) fun D σ H'=>un7 fun P' F' ρ r hf I kk=>by
    unfold xCall at hf
    cases q:g ρ with
    | none=>rw [q] at hf; cases hf
    | some xs=>
      rw [q,Option.bind_some] at hf
      cases q2:rz xs with
      | none=>rw [q2] at hf; cases hf
      | some k2=>
        rw [q2] at hf
        cases hf
        refine ⟨P',F',ρ,xs,q,I,fun vs F1 H1 e1 r1=>?_⟩
        have I1:=I.evo e1
        exact ⟨gd F1 H1,F1,xs,k2,q2,gd_hp I1.sub,by rw [List.append_nil]; exact r1.dvs I1,fun F2 H2 e2 hp2=>kk F2 H2 (e1.ext.trans e2) (I1.toDHp.gd e2 hp2).hp⟩
end L2
namespace L2
open PySem PySem.Spec PyProof.Rows
section
variable {X:Cx} {e:Expr} {pos:Pos}
theorem DInv.nestL {K:PySem.W.Frag} {P F H:Hp} {ρ:DF} {σ:St} (I:DInv K P F H ρ σ) {i j:Nat} {dss:List (List D)} {ds:List D} (q:(∃ t,ρ[i]?=some (some (.own (.lst2 dss) t)))∨ρ[i]?=some (some (.bor (.lst2 dss)))) (hj:dss[j]?=some ds):∃ (a:Addr) (bs:List Addr) (b:Addr) (u:HO),σ[i]?=some (some (.ref a))∧H a=some (.lst (bs.map .ref))∧bs[j]?=some b∧F b=none∧H b=some u∧ORep1 K F (.lst ds) u:=by
  have hs:∃ v,σ[i]?=some (some v):=by
    rcases q with ⟨t,q⟩ | q
    · obtain ⟨v,h1,_⟩:=I.at q; exact ⟨v,h1⟩
    · obtain ⟨v,h1,_⟩:=I.at q; exact ⟨v,h1⟩
  obtain ⟨v,hv⟩:=hs
  obtain ⟨a,rfl,h2,bs,h3,h4,h5⟩:=I.slot hv q
  obtain ⟨b,h6,h7,u,h8,h9⟩:=h5.get hj
  exact ⟨a,bs,b,u,hv,h3,h6,h7,h8,h9⟩
noncomputable def dAppEL (i j:Nat) (f:DF→Option D):DF→Option RES:=fun ρ=>match ρ[i]? with
  | some (some (.own (.lst2 dss) t))=>match dss[j]? with
    | some ds=>(f ρ).bind fun d=>if ds.length < 16777216 then some (.nx (ρ.set i (some (.own (.lst2 (dss.set j (ds++[d]))) t)))) else none
    | none=>none
  | _=>none
theorem DInv.mutNL {K:PySem.W.Frag} {P F H:Hp} {ρ:DF} {σ:St} (I:DInv K P F H ρ σ) {i j:Nat} {dss:List (List D)} {ds ds':List D} {t:Option Addr} (h:ρ[i]?=some (some (.own (.lst2 dss) t))) (hj:dss[j]?=some ds):∃ (a:Addr) (bs:List Addr) (b:Addr) (vs:List V),σ[i]?=some (some (.ref a))∧H a=some (.lst (bs.map .ref))∧bs[j]?=some b∧F b=none∧H b=some (.lst vs)∧Reps K F vs ds ∧
    ∀ F1 H1,Evo P F H F1 H1→∀ vs',Reps K F1 vs' ds'→DInv K P F1 (upd H1 b (.lst vs')) (ρ.set i (some (.own (.lst2 (dss.set j ds')) t))) σ:=by
  obtain ⟨a,bs,b,u,h1,h2,h3,h4,h5,h6⟩:=I.nestL (.inl ⟨t,h⟩) hj
  cases u with
  | lst vs=>
    refine ⟨a,bs,b,vs,h1,h2,h3,h4,h5,h6,fun F1 H1 ev vs' hv=>?_⟩
    have I1:=I.evo ev
    obtain ⟨O,hR⟩:=I1.rep
    obtain ⟨v,g1,a',rfl,⟨g2,bs',g3,g4,g5⟩,ht⟩:=hR i _ h
    rw [h1] at g1
    cases g1
    rw [(ev.keep a _ h2 (by
      obtain ⟨v,y1,y2,rfl,⟨⟨y3,_⟩,_⟩,_⟩:=I.at h
      rw [h1] at y1; cases y1; exact y3)).1] at g3
    have hb:bs'=bs:=by
      have z:bs.map V.ref=bs'.map V.ref:=HO.lst.inj (Option.some.inj g3)
      have inj:∀ x y:List Addr,x.map V.ref=y.map V.ref→x=y:=fun x y e=>by
        have:=congrArg (List.map fun v:V=>match v with | .ref a=>a | _=>0) e
        rw [List.map_map,List.map_map] at this
        have e0:((fun v:V=>match v with | .ref a=>a | _=>0) ∘ V.ref)=id:=rfl
        rw [e0,List.map_id,List.map_id] at this
        exact this
      exact (inj _ _ z).symm
    subst hb
    obtain ⟨n1,n2⟩:=List.nodup_cons.mp g4
    obtain ⟨b',y1,⟨y2,y3,y4⟩,_⟩:=g5.get hj
    rw [h3] at y1
    cases y1
    have hab:a≠b:=fun z=>by subst z; exact n1 (List.mem_of_getElem? h3)
    refine ⟨⟨fun c w e=>by rw [upd_ne (ne_of_none e y2)]; exact I1.sub c w e,fun c w e=>by rw [upd_ne (ne_of_none e y3)]; exact I1.pro c w e,I1.dis⟩,by rw [List.length_set]; exact I1.len,O,fun m z hm=>?_⟩
    rcases set_get hm with ⟨rfl,e,hl⟩ | ⟨him,hm'⟩
    · cases e
      refine ⟨_,h1,a,rfl,⟨g2,bs',by rw [upd_ne hab]; exact (ev.keep a _ h2 (by
        obtain ⟨v,y1,y2,rfl,⟨⟨y3,_⟩,_⟩,_⟩:=I.at h
        rw [h1] at y1; cases y1; exact y3)).1,g4,?_⟩,ht⟩
      exact g5.set n2 h3 ⟨⟨y2,y3,y4⟩,.lst vs',upd_same,hv⟩ fun c x hc ⟨o1,o2,o3,o4⟩=>⟨o1,o2,by rw [upd_ne hc]; exact o3,o4⟩
    · obtain ⟨w,e1,e2⟩:=hR m z hm'
      refine ⟨w,e1,?_⟩
      cases z with
      | v d'=>exact e2
      | own od t'=>(obtain ⟨c,rfl,e3,ht'⟩:=e2; exact ⟨c,rfl,e3.mono (Same.refl _) fun b w' q hb=>⟨by rw [upd_ne (fun z=>by subst z; rw [q.2.2] at y4; exact him (Option.some.inj y4).symm)]; exact hb,q⟩,ht'⟩)
      | bor od=>exact e2
  | _=>exact h6.elim
theorem pd_appEL (i j:Nat) {o e:Expr} {k} {p ipos apos cpos:Pos} {f:DF→Option D} (h:PE X o (tVar i)) (ha:PDE X e f) (hp:PlainIx (.Constant (.int (j:Int)) k p):=by exact fun _ _=>rfl) (hbase:attributeBase (.Subscript o (.Constant (.int (j:Int)) k p) ipos) "append" X.env (eval (.Subscript o (.Constant (.int (j:Int)) k p) ipos) X.env)=eval (.Subscript o (.Constant (.int (j:Int)) k p) ipos) X.env:=by rfl)
    (hfew:((backTo cpos (starEach [e] X.env)).all (fun x=>!x.1)&&(backToKw cpos (keywordEach [] X.env)).all (fun x=>x.1.isSome)
      && decide (([e]:List Expr).length + ([]:List Keyword).length + (if ([]:List Keyword).isEmpty then 0 else 1) < 30))=true:=by rfl)
    (hline:(apos.endLine == cpos.line)=true:=by rfl) (hs:starEach [e] X.env=[(false,eval e X.env)]:=by rfl) (hsw:swapsWith (.Call (.Attribute (.Subscript o (.Constant (.int (j:Int)) k p) ipos) "append" apos) [e] [] cpos) none pos.line X.env=pure false:=by rfl) :
    PD1 X (.Expr (.Call (.Attribute (.Subscript o (.Constant (.int (j:Int)) k p) ipos) "append" apos) [e] [] cpos) pos) (dAppEL i j f):=
  PS.imp (ps_expr (pe_bm PySem.F.plainAttrs_list PySem.F.slot_list_append PySem.F.type_list_append mt_append (pe_ix ix_seq h pe_int hp) (pa_cons ha pa_nil hs) hbase hfew hline hs rfl) hsw) fun E σ H=>un7 fun P F ρ r hr I k=>by
    unfold dAppEL at hr
    split at hr
    · rename_i dss t q
      split at hr
      · rename_i ds hj
        cases q2:f ρ with
        | none=>rw [q2] at hr; cases hr
        | some d=>
          rw [q2,Option.bind_some] at hr
          split at hr
          · rename_i hl
            cases hr
            obtain ⟨a,bs,b,vs,h1,h2,h3,h4,h5,h6,h7⟩:=I.mutNL (ds':=ds++[d]) q hj
            refine ⟨_,h1,.inl ⟨a,_,_,.ref b,rfl,rfl,SqL.of h2,atI_nat (by rw [List.getElem?_map,h3]; rfl),?_⟩⟩
            refine ⟨.inl ⟨rfl,vs,SqL.of h5⟩,P,F,ρ,d,q2,I,fun v F1 H1 e1 r1=>?_⟩
            obtain ⟨k1,k2⟩:=e1.keep b _ h5 h4
            exact ⟨b,vs,v,rfl,rfl,k1,by rw [sizeLine_eq,h6.length]; exact hl,k σ F1 _ e1.ext (h7 F1 H1 e1 _ ((h6.same e1.ext).append (.one r1)))⟩
          · cases hr
      · cases hr
    · cases hr
theorem pdo_lst2 {e1 e2:Expr} {f1 f2:DF→Option (List D)} (h1:PDO X e1 (asL f1)) (h2:PDO X e2 (asL f2)) (hs:starEach [e1,e2] X.env=(false,eval e1 X.env)::starEach [e2] X.env:=by rfl) (hs2:starEach [e2] X.env=(false,eval e2 X.env)::starEach [] X.env:=by rfl) :
    PDO X (.List [e1,e2] pos) (fun ρ=>(f1 ρ).bind fun a=>(f2 ρ).map fun b=>.lst2 [a,b]):=
  (pe_lst (pa_cons h1 (pa_cons h2 pa_nil hs2) hs)).imp fun σ H Q=>un7 fun P F ρ o hf0 I k=>by
    have hf:((f1 ρ).bind fun a=>(f2 ρ).map fun b=>OD.lst2 [a,b])=some o:=hf0
    clear hf0
    cases q1:f1 ρ with
    | none=>rw [q1] at hf; cases hf
    | some d1=>
      cases q2:f2 ρ with
      | none=>rw [q1,q2] at hf; cases hf
      | some d2=>
        rw [q1,q2] at hf
        cases hf
        refine ⟨P,F,ρ,.lst d1,by unfold asL; rw [q1]; rfl,I,fun a F1 H1 ev1 o1=>⟨P,F1,ρ,.lst d2,by unfold asL; rw [q2]; rfl,I.evo ev1,fun b F2 H2 ev2 o2=>⟨by rw [sizeLine_eq]; exact (show 2≤16777216 by decide),fun p hp=>?_⟩⟩⟩
        obtain ⟨⟨a1,a2⟩,u,a3,a4⟩:=o1
        obtain ⟨⟨b1,b2⟩,u',b3,b4⟩:=o2
        obtain ⟨k1,k2⟩:=ev2.keep a u a3 a2
        have ev3:=Evo.side (o:=.lst [.ref a,.ref b]) ev2.hp hp
        have pa:a≠p:=fun z=>by subst z; rw [hp] at k1; cases k1
        have pb:b≠p:=fun z=>by subst z; rw [hp] at b3; cases b3
        have ab:a≠b:=fun z=>by subst z; rw [a3] at b1; cases b1
        have hb0:H b=none:=ev1.back I.toDHp b1
        have hp0:H p=none:=ev1.back I.toDHp (ev2.back (I.evo ev1).toDHp hp)
        have fp:=ev2.hp.free hp
        refine k p F2 _ (ev1.trans (ev2.trans ev3)) ⟨⟨hp0,fp.1⟩,[a,b],upd_same,?_,?_⟩
        · simp [Ne.symm pa,Ne.symm pb,ab]
        · exact .cons ⟨⟨a1,k2⟩,u,by rw [upd_ne pa]; exact k1,a4.same ev2.ext⟩ (.cons ⟨⟨hb0,b2⟩,u',by rw [upd_ne pb]; exact b3,b4⟩ .nil)
end
end L2
namespace L2
open PySem PySem.Spec PySem.Calls PySem.W PyProof.Rows PySem.Builtin PySem.Builtin.Str
noncomputable def tFst (i:Nat) (t2:Str):TE:=fun σ H Q=>∃ x,σ[i]?=some (some (.str x))∧(reprText x).length≤1000∧t2.length≤1000∧∀ y,Q (.str y) H
section
variable {X:Cx} {pos:Pos}
theorem pe_fst {i:Nat} {kn t2:Str} {c} {p1 p3 p4:Pos} (hv:PE X (.Name kn p1) (tVar i)):PE X (.JoinedStr [.FormattedValue (.Name kn p1) 114 none p3,.Constant (.str t2) c p4] pos) (tFst i t2):=by
  intro pins s σ H Q I h
  obtain ⟨x,hx,hl,hl2,q⟩:=h
  have z1:(reprText x).length≤sizeLine:=Nat.le_trans hl (by decide)
  refine wpAny_JoinedStr ?_
  show wpAny (model X.prog X.w) X.A (eval (.FormattedValue (.Name kn p1) 114 none p3) X.env) (fun v s₁=>∃ y t,v=.str y t∧(Str.empty++y).length≤sizeLine∧Joins (model X.prog X.w) X.A X.xe [eval (.Constant (.str t2) c p4) X.env] (Str.empty++y) _ s₁) X.xe s
  refine wpAny_FormattedValue_repr (thnG (hv pins s σ H (fun v H1=>v=.str x∧H1=H) I ⟨_,hx,rfl,rfl⟩) fun u s1 v H1 I1 r1 q1=>?_)
  obtain ⟨rfl,rfl⟩:=q1
  obtain ⟨tk,rfl⟩:=(show ∃ t,u=Value.str x t from r1)
  refine wpAny_pyReprObj_str ?_ z1
  refine formatField_str (fun t' tk'=>⟨reprText x,t',rfl,?_,?_⟩) z1
  · rw [strLen_append]
    show 0 + (reprText x).length≤sizeLine
    omega
  · refine thnG (pe_str (X:=X) (x:=t2) (j:=c) (pos:=p4) pins _ σ H1 (fun v H2=>v=.str t2∧H2=H1) (I1.tok _) ⟨rfl,rfl⟩) fun u2 s2 v2 H2 I2 r2 q2=>?_
    obtain ⟨rfl,rfl⟩:=q2
    obtain ⟨tk2,rfl⟩:=(show ∃ t,u2=Value.str t2 t from r2)
    have z2:(Str.empty++reprText x++t2).length≤sizeLine:=by
      rw [strLen_append,strLen_append]
      show 0 + (reprText x).length + t2.length≤sizeLine
      have:(2000:Nat)≤sizeLine:=by decide
      omega
    exact ⟨t2,tk2,rfl,z2,z2,⟨.str _,H2,I2.tok _,⟨_,rfl⟩,q _⟩⟩
theorem ps_raise1 {C:Addr} {x:Str} {e:Expr} {te:TE} {np cpos} {R:Hp→Prop} (hc:X.calm=true) (hR:Raises X C R) (hg:Gl X x) (hm:X.mg x=some (.ref C)) (q:excIn X.K C vErr "ValueError.__new__"=true) (he:PE X e te)
    (hd:(x == ("__debug__":Str))=false:=by decide) (hs:starEach [e] X.env=[(false,eval e X.env)]:=by rfl) :
    PS X (.Raise (some (.Call (.Name x np) [e] [] cpos)) none pos) (fun _ σ H=>te σ H fun v H1=>[v].length=1∧R H1):=by
  intro pins s σ H D I h
  obtain ⟨bm,N,nm,qn,bs,hdct,sn,sub,ab,col,dd,k0,k1,k2,k3,k5,mN,hC,hN,hni,T⟩:=exc_obj I.mod.kin q
  refine wpAny_Raise_call_subT (C:=C) (nm:=nm) (q:=qn) (N:=N) (bs:=bs) (bm:=bm) (hdct:=hdct) (sn:=sn) (sub:=sub) (ab:=ab) (col:=col) (dd:=dd) (k0:=k0) (k1:=k1) (k2:=k2) (k3:=k3) (k5:=k5) F.excBase_ValueError (mN:=mN) (T.hasType rfl) (I.ok.hd hc) (by rw [hs]; rfl) hni (ld_glob I hg hm ⟨rfl,?_⟩ hd)
  have pa:PA X [e] (tCons te tNil):=pa_cons he pa_nil hs
  have go:=pa cpos pins s σ H (fun vs H1=>vs.length=1∧R H1) I h
  rw [hs] at go ⊢
  refine Calls.evalArgs_plain (thnG go fun us s1 vs H1 I1 r1 q1=>⟨rfl,?_,I1.bk _ _ hC,hN.keeps I1.bk,T.keeps I1.bk,fun h' e hx=>hR pins σ H1 s1 h' e us I1 hx q1.2⟩)
  rw [← r1.length,q1.1]
  decide
noncomputable def xExF (i:Nat) (t2:Str) (k:Nat):DF→Option XR:=fun ρ=>match ρ[i]? with
  | some (some (.v (.str x)))=>if (reprText x).length≤1000∧t2.length≤1000 then some (.ex k) else none
  | _=>none
theorem px_raiseF {cl:Nat→Addr} {E:XK} {k i:Nat} {x kn t2:Str} {c np cpos} {p1 p3 p4 p5:Pos} (hc:X.calm=true) (hR:Raises X (cl k) fun H'=>E (.ref (cl k)) none H') (hg:Gl X x) (hm:X.mg x=some (.ref (cl k))) (q:excIn X.K (cl k) vErr "ValueError.__new__"=true) (hv:PE X (.Name kn p1) (tVar i))
    (hd:(x == ("__debug__":Str))=false:=by decide) (hs:starEach [.JoinedStr [.FormattedValue (.Name kn p1) 114 none p3,.Constant (.str t2) c p4] p5] X.env=[(false,eval (.JoinedStr [.FormattedValue (.Name kn p1) 114 none p3,.Constant (.str t2) c p4] p5) X.env)]:=by rfl) :
    PX1 X cl E (.Raise (some (.Call (.Name x np) [.JoinedStr [.FormattedValue (.Name kn p1) 114 none p3,.Constant (.str t2) c p4] p5] [] cpos)) none pos) (xExF i t2 k):=PS.imp (ps_raise1 hc hR hg hm q (pe_fst (t2:=t2) (c:=c) hv) hd hs) fun D σ H=>un7 fun P F ρ r hf I kk=>by
  unfold xExF at hf
  split at hf
  · rename_i y qy
    split at hf
    · rename_i hl
      cases hf
      obtain ⟨v,h1,h2⟩:=I.at qy
      cases (show Rep X.K F v (.str y) from h2)
      exact ⟨y,h1,hl.1,hl.2,fun _=>⟨rfl,kk F H (Same.refl _) I.toDHp⟩⟩
    · cases hf
  · cases hf
end
end L2
namespace L2
open PySem PySem.Spec PySem.Calls PySem.W PyProof.Rows
noncomputable def argL2 (i:Nat) (ρ:DF):Option (List DV):=match ρ[i]? with
  | some (some (.own (.lst2 [d0,d1]) _))=>some [.bor (.lst d0),.bor (.lst d1)]
  | _=>none
theorem argL2_eq {i:Nat} {ρ:DF} {xs:List DV} (h:argL2 i ρ=some xs):∃ d0 d1 t,ρ[i]?=some (some (.own (.lst2 [d0,d1]) t))∧xs=[.bor (.lst d0),.bor (.lst d1)]:=by
  unfold argL2 at h
  split at h
  · rename_i d0 d1 t q
    cases h
    exact ⟨d0,d1,t,q,rfl⟩
  · cases h
section
variable {X:Cx} {e e':Expr} {k0 k1:_} {p0 p1 s0 s1:Pos}
theorem pa_two {i:Nat} {c0 c1} (h:PE X e (tVar i)) (h':PE X e' (tVar i)) (hs0:PlainIx (.Constant (.int 0) c0 p0):=by exact fun _ _=>rfl) (hs1:PlainIx (.Constant (.int 1) c1 p1):=by exact fun _ _=>rfl)
    (he:starEach [.Subscript e (.Constant (.int 0) c0 p0) s0,.Subscript e' (.Constant (.int 1) c1 p1) s1] X.env=(false,eval (.Subscript e (.Constant (.int 0) c0 p0) s0) X.env)::starEach [.Subscript e' (.Constant (.int 1) c1 p1) s1] X.env:=by rfl) (he1:starEach [.Subscript e' (.Constant (.int 1) c1 p1) s1] X.env=(false,eval (.Subscript e' (.Constant (.int 1) c1 p1) s1) X.env)::starEach [] X.env:=by rfl) :
    PA X [.Subscript e (.Constant (.int 0) c0 p0) s0,.Subscript e' (.Constant (.int 1) c1 p1) s1] (tCons (tOp (rIx X.K) (tVar i) (tC (.int 0))) (tCons (tOp (rIx X.K) (tVar i) (tC (.int 1))) tNil)):=
  pa_cons (pe_ix ix_seq h pe_int hs0) (pa_cons (pe_ix ix_seq h' pe_int hs1) pa_nil he1) he
end
theorem two_at {K:PySem.W.Frag} {P F H:Hp} {ρ:DF} {σ:St} {i:Nat} {xs:List DV} (I:DInv K P F H ρ σ) (h:argL2 i ρ=some xs):∃ b0 b1:Addr,(∀ F' H',Evo P F H F' H'→DVs K (gd F' H') F' H' xs [.ref b0,.ref b1]) ∧
    ∀ Q:List V→Hp→Prop,Q [.ref b0,.ref b1] H→tCons (tOp (rIx K) (tVar i) (tC (.int 0))) (tCons (tOp (rIx K) (tVar i) (tC (.int 1))) tNil) σ H Q:=by
  obtain ⟨d0,d1,t,q,rfl⟩:=argL2_eq h
  obtain ⟨v,h1,a,rfl,⟨_,bs,h2,nd,al⟩,_⟩:=I.at q
  cases al with
  | cons q0 al=>
    cases al with
    | cons q1 al=>
      cases al
      rename_i b0 b1
      obtain ⟨⟨f0,_⟩,u0,g0,r0⟩:=q0
      obtain ⟨⟨f1,_⟩,u1,g1,r1⟩:=q1
      refine ⟨b0,b1,fun F' H' ev=>?_,fun Q hQ=>?_⟩
      · obtain ⟨x0,y0⟩:=ev.keep b0 u0 g0 f0
        obtain ⟨x1,y1⟩:=ev.keep b1 u1 g1 f1
        exact .cons rfl ⟨b0,rfl,trivial,u0,gd_eq.mpr ⟨y0,x0⟩,r0.same ev.ext⟩ (.cons rfl ⟨b1,rfl,trivial,u1,gd_eq.mpr ⟨y1,x1⟩,r1.same ev.ext⟩ .nil)
      refine ⟨_,h1,.inl ⟨a,_,_,.ref b0,rfl,rfl,SqL.of h2,atI_nat (j:=0) rfl,?_⟩⟩
      exact ⟨_,h1,.inl ⟨a,_,_,.ref b1,rfl,rfl,SqL.of h2,atI_nat (j:=1) rfl,hQ⟩⟩
noncomputable def makeL2 (C:Addr) (mM:OD→List DV→Option (OD×D)) (i:Nat):DF→Option OD:=fun ρ=>(argL2 i ρ).bind fun xs=>match mM (.ins C []) xs with
  | some (o',.non)=>if o'.flat=true then some o' else none
  | _=>none
section
variable {X:Cx} {k:Nat} {f C:Addr} {fd:FuncData} {ps:List Str} {mM:OD→List DV→Option (OD×D)} {x:Str} {p pos:Pos} {e0 e1:Expr}
theorem pdo_mk2 {i:Nat} (M:Mk X.K C f) (G:FnOk X.prog X.w X.K X.mg X.base CX0 k f fd ps (spM X.K mM)) (hr:Room (k + 1) X.A) (hg:Gl X x) (hm:X.mg x=some (.ref C)) (hb:Binds X.K fd ps []) (ha:PA X [e0,e1] (tCons (tOp (rIx X.K) (tVar i) (tC (.int 0))) (tCons (tOp (rIx X.K) (tVar i) (tC (.int 1))) tNil)))
    (hdb:(x == ("__debug__":Str))=false:=by decide) (he:starEach [e0,e1] X.env=(false,eval e0 X.env)::starEach [e1] X.env:=by rfl) (hpl:(backTo pos (starEach [e1] X.env)).any (·.1)=false:=by rfl):PDO X (.Call (.Name x p) [e0,e1] [] pos) (makeL2 C mM i):=
  (pe_make M G hr hg hm hb .nil pass0 ha hdb he hpl).imp fun σ H Q=>un7 fun P F ρ ob hf I k=>by
    unfold makeL2 at hf
    cases q:argL2 i ρ with
    | none=>rw [q] at hf; cases hf
    | some xs=>
      rw [q,Option.bind_some] at hf
      split at hf
      · rename_i o' q2
        split at hf
        · rename_i fl
          cases hf
          obtain ⟨b0,b1,hd,ht⟩:=two_at I q
          refine ht _ fun y dx hy hdx hne=>?_
          have sm:Same H (upd (upd H dx (.own y)) y (.ins C dx [])):=fun b u z=>by rw [upd_ne (ne_of_none z hy),upd_ne (ne_of_none z hdx)]; exact z
          refine ⟨gd F H,F,y,[.ref b0,.ref b1],.ins C [],xs,ob,.non,by simp,q2,⟨I.sub.trans sm,fun b u z=>sm b u ((gd_hp I.sub).pro b u z),(gd_hp I.sub).dis⟩,I.sub.free hy,(gd_hp I.sub).pro.free hy,rfl,⟨_,upd_same,rfl,.nil⟩,(hd F H (Evo.refl I.toDHp)).heap,fun v F2 H2 e2 hp2 f2 ho fl' rv=>?_⟩
          cases rv
          exact ⟨rfl,k y F2 H2 (I.toDHp.gd e2 hp2) ((ORep.flat fl).mpr ⟨⟨hy,f2⟩,ho⟩)⟩
        · cases hf
      · cases hf
end
noncomputable def RzsC (X:Cx) (body:List Stmt) (cl:Nat→Addr) (rz:DF→Option Nat):Prop:=
  ∀ (pins:List (Addr×Obj)) (s:Shared) (σ:St) (H P F:Hp) (ρ:DF) (k:Nat) (Q:Flow→Shared→Prop) (E:Value→Shared→Prop),Inv X pins σ H s→rz ρ=some k→DInv X.K P F H ρ σ→
    (∀ (a:Addr) (a0:Value) (B:Heap) (F1 H1:Hp) (s1:Shared) (F2 H2:Hp) (s2:Shared),Inv X pins σ H1 s1→Evo P F H F1 H1→Thr X.prog X.w (cl k) X.stack H1 s1 a a0 B H2 s2→Same F1 F2→DHp (gd F1 H1) F2 H2→E (.ref a) s2)→wpAny (model X.prog X.w) X.A (execs body X.env) Q E s
theorem rzs_mk2 {X:Cx} {k i:Nat} {f Cr:Addr} {cl:Nat→Addr} {fd:FuncData} {ps:List Str} {rz:List DV→Option Nat} {x tn:Str} {p pos tp apos:Pos} {e0 e1:Expr} (hX:∀ e s,X.xe e s→False) (M:Mk X.K Cr f)
    (F:FnOk X.prog X.w X.K X.mg X.base (CXc X.prog X.w cl) k f fd ps (spXc X.K cl rz)) (hr:Room (k + 1) X.A) (hg:Gl X x) (hm:X.mg x=some (.ref Cr)) (hb:Binds X.K fd ps []) (ha:PA X [e0,e1] (tCons (tOp (rIx X.K) (tVar i) (tC (.int 0))) (tCons (tOp (rIx X.K) (tVar i) (tC (.int 1))) tNil)))
    (hd:(x == ("__debug__":Str))=false:=by decide) (he:starEach [e0,e1] X.env=(false,eval e0 X.env)::starEach [e1] X.env:=by rfl) (hpl:(backTo pos (starEach [e1] X.env)).any (·.1)=false:=by rfl)
    (hs:swapsWith (.Call (.Name x p) [e0,e1] [] pos) (some (.Name tn tp)) apos.line X.env=pure false:=by rfl) :
    RzsC X [.Assign [.Name tn tp] (.Call (.Name x p) [e0,e1] [] pos) apos] cl (fun ρ=>(argL2 i ρ).bind fun xs=>rz (.v (.ins Cr [])::xs)):=by
  intro pins s σ H P Fr ρ kk Q E I hrz ID go
  cases q:argL2 i ρ with
  | none=>simp only [q] at hrz; cases hrz
  | some xs=>
    simp only [q,Option.bind_some] at hrz
    obtain ⟨b0,b1,hdv,ht⟩:=two_at ID q
    have ha1:=ha pos pins s σ H (fun vs H1=>vs=[.ref b0,.ref b1]∧H1=H) I (ht _ ⟨rfl,rfl⟩)
    refine wpAny_execs_cons (wpAny_Assign_Name (wpAny_Call_Name_kw (ld_glob I hg hm ?_ hd)) hs)
    refine PySem.W.callWith_K (h₀:=X.base) I.ok.mod.kin M.kp (wpAny_mono ha1 (fun us s1 z=>?_) fun e s z=>(hX e s z).elim) he hpl
    obtain ⟨vs,H1,I1,rv,rfl,rfl⟩:=z
    refine ⟨I1.kIn,?_⟩
    have I2:=Inv.made (C:=Cr) I1
    have hy:H1 (s1.heap.objs.size + 1)=none:=I1.hok.fresh (Nat.le_succ _)
    have hdx:H1 s1.heap.objs.size=none:=I1.hok.fresh (Nat.le_refl _)
    have e2:Evo P Fr H1 Fr (upd H1 s1.heap.objs.size (.own (s1.heap.objs.size + 1))):=Evo.side ID.toDHp hdx
    have e3:=Evo.laid (o:=.ins Cr s1.heap.objs.size []) e2.hp (a:=s1.heap.objs.size + 1) (by rw [upd_ne (Nat.succ_ne_self _)]; exact hy)
    have e4:=e2.trans e3
    have ID2:=ID.evo e4
    have hsp:spXc X.K cl rz (V.ref (s1.heap.objs.size + 1)::[.ref b0,.ref b1]) (upd (upd H1 s1.heap.objs.size (.own (s1.heap.objs.size + 1))) (s1.heap.objs.size + 1) (.ins Cr s1.heap.objs.size [])) (fun _ _=>False) (fun c _ Hz=>c=.ref (cl kk)∧∃ F2,Same (upd Fr (s1.heap.objs.size + 1) (.ins Cr s1.heap.objs.size [])) F2∧DHp (gd (upd Fr (s1.heap.objs.size + 1) (.ins Cr s1.heap.objs.size [])) (upd (upd H1 s1.heap.objs.size (.own (s1.heap.objs.size + 1))) (s1.heap.objs.size + 1) (.ins Cr s1.heap.objs.size []))) F2 Hz):=
      ⟨_,_,.v (.ins Cr [])::xs,kk,hrz,gd_hp ID2.sub,.cons rfl (show Rep X.K _ _ _ from .ins upd_same .nil) (hdv _ _ e4),fun F2 H2 z1 z2=>⟨rfl,F2,z1,z2⟩⟩
    have r2:Vals (V.ref (s1.heap.objs.size + 1)::[.ref b0,.ref b1]) (Value.ref (s1.heap.objs.size + 1)::us):=.cons rfl rv
    have hl:(Value.ref (s1.heap.objs.size + 1)::us++[]).length=ps.length:=by
      rw [List.append_nil,← r2.length]
      exact F.len _ _ _ _ hsp
    have hbb:=hb _ (Value.ref (s1.heap.objs.size + 1)::us) I2.kIn hl
    rw [List.append_nil] at hbb
    refine wpAny_call (make_map (f:=f) I1.kIn M.makes M.init (beq_iff_eq.mp M.fn) (codeAny_mono (F.run _ X.stack _ _ ⟨Value.ref (s1.heap.objs.size + 1)::us,[]⟩ (Value.ref (s1.heap.objs.size + 1)::us) _ _ _ (hr.make Cr us []) (I2.env0.make Cr us []) hbb r2 hsp) fun r s' hq=>?_))
    cases r with
    | ok fl=>
      cases fl with
      | ret u=>obtain ⟨_,_,_,_,_,_,_,z⟩:=hq; exact z.elim
      | next=>exact False.elim hq
      | brk=>exact False.elim hq
      | cont=>exact False.elim hq
    | error ev=>
      obtain ⟨k2,a,a0,B,H2,rfl,t,hk2,F2,z1,z2⟩:=hq
      have ek:cl k2=cl kk:=Value.ref.inj hk2
      rw [ek] at t
      exact go a a0 B _ _ _ F2 H2 s' I2 e4 t z1 z2
noncomputable def tS1 (ie it:Nat) (bs:List Bool) (a:Addr):TS:=fun D σ H=>σ[ie]?=some (some (.ref a))∧∀ tp,H tp=none→D.nx (σ.set it (some (.ref tp))) (upd H tp (.lst (bs.map V.bl)))
noncomputable def tSu3 (ie it io:Nat) (bs:List Bool) (a:Addr):TS:=fun D σ H=>σ[ie]?=some (some (.ref a))∧∀ tp,H tp=none→∀ H',(∀ P F,DHp P F (upd H tp (.lst (bs.map V.bl)))→Evo P F (upd H tp (.lst (bs.map V.bl))) F H')→D.nx ((σ.set it (some (.ref tp))).set io (some (.bl false))) H'
noncomputable def dTryC (rz:DF→Option Nat) (ie it io:Nat) (bs:Nat→List Bool) (gn:DF→Option RES):DF→Option RES:=fun ρ=>match rz ρ with
  | some k=>(match ρ[ie]? with | some none=>some (.nx ((ρ.set it (some (.v (.lst ((bs k).map D.bl))))).set io (some (.v (.bl false))))) | _=>none)
  | none=>gn ρ
theorem reps_bls {K:PySem.W.Frag} {H:Hp}:∀ bs:List Bool,Reps K H (bs.map V.bl) (bs.map D.bl)
  | []=>.nil
  | _::bs=>.cons .bl (reps_bls bs)
theorem pd_tryC {X:Cx} {W:Addr} {cl:Nat→Addr} {rz:DF→Option Nat} {wn er:Str} {ie it io:Nat} {bs:Nat→List Bool} {np hpos tpos:Pos} {body:List Stmt} {b0:Stmt} {suite:List Stmt} {gn:DF→Option RES} (hX:∀ e s,X.xe e s→False)
    (hR:RzsC X body cl rz) (hn:PDS X body gn)
    (hstk:X.stack=X.env::X.outer) (hfr:X.env.frame=some X.env.locals) (hgw:Gl X wn) (hmw:X.mg wn=some (.ref W)) (hxm:∀ k,exmOne X.K (.ref (cl k)) (.ref W)=some true)
    (hN:X.N.Nodup) (hie:X.N[ie]?=some er) (hle:X.env.scope.names.lookup er=some .local) (hne:ie≠it) (hne2:ie≠io) (hsu:∀ k a ob,ob.cls=.ref (cl k)→PSs (X.caught a ob) (b0::suite) (tSu3 ie it io (bs k) a)) (hdw:(wn == ("__debug__":Str))=false:=by decide) :
    PD1 X (.Try body [.ExceptHandler (some (.Name wn np)) (some er) (b0::suite) hpos] [] [] tpos) (dTryC rz ie it io bs gn):=by
  intro pins s σ H D I h
  obtain ⟨P,Fr,ρ,r,hf,ID,kk⟩:=h
  unfold dTryC at hf
  split at hf
  · rename_i kc hrz
    split at hf
    · rename_i hne0
      cases hf
      refine wpAny_Try_except (hR pins s σ H P Fr ρ kc _ _ I hrz ID fun a a0 B F1 H1 s1 F2 H2 s' I1 ev1 t e2 hp2=>?_)
      have ID1:=ID.evo ev1
      have fly:Heap.FlyingW B (X.env::X.outer) a (.ref (cl kc)) a0 s'.heap:=hstk ▸ t.fly
      have frf:∀ b∈frs X.stack,H1 b=none:=I1.stkFree
      have inv:∀ (h5:Heap),B.StaysIn h5→s'.heap.UpToSlots h5→Inv X pins σ H2 { s' with heap:=h5 }:=fun h5 hb5 sm5=>
        I1.call' (s':={ s' with heap:=h5 }) t.os (t.un frf hb5 sm5) (t.hok.kept hb5) t.bare (fun _ z=>nomatch z)
      have nb:H2 a=none:=t.hok.miss fly.2.1
      refine wpAny_looks_onW (by rw [I.ok.frames,hstk]) hfr fly fun h4 held sm4=>?_
      refine wpAny_landsW held fun h5 fly5 sm5=>?_
      have J5:=inv h5 fly5.1 (sm4.trans sm5)
      have mk:∀ (h:Heap) (ob:Obj),Inv X pins σ H2 { s' with heap:=h }→h.get? a=some ob→(∃ vs,ob.data=.fields vs)→Inv (X.caught a ob) pins σ H2 { s' with heap:=h }:=fun h ob J e1 e2=>by
        obtain ⟨vs',e2⟩:=e2
        refine J.caught e1 nb (fun z=>?_) (fun z=>?_) fun v z=>by rw [e2] at z; cases z
        · obtain ⟨m,⟨o,es',ep',ho,hd',_⟩,_⟩:=J.loc
          have ho':h.get? X.env.locals=some o:=ho
          rw [← z,e1] at ho'
          cases ho'
          rw [e2] at hd'
          cases hd'
        · obtain ⟨_,o,ho,nf⟩:=J.funs.mem z
          have ho':h.get? a=some o:=ho
          rw [e1] at ho'
          cases ho'
          exact nf _ e2
      obtain ⟨oe5,vs5,g5,c5,d5,_⟩:=fly5.first
      have K5:=mk h5 oe5 J5 g5 ⟨_,d5⟩
      refine wpAny_handleBy_cons (codeAny_handlers_test (ld_glob K5 hgw hmw ?_ hdw)) (by intro z; cases z)
      refine (exm_one (M:=model X.prog X.w) (e:=a) K5.kIn (ExAt.type ⟨oe5,g5,c5⟩) (hxm kc)).here ?_
      refine codeAny_handlers_suite_as (lands_againW fly5 fun h6 fly6 sm6=>?_)
      obtain ⟨oe6,vs6,g6,c6,d6,_⟩:=fly6.first
      have K6:=mk h6 oe6 (inv h6 fly6.1 ((sm4.trans sm5).trans sm6)) g6 ⟨_,d6⟩
      refine store_ok (X:=X.caught a oe6) (v:=.ref a) K6 hN hie (.inl hle) rfl (fun s7 K7=>?_) (.inr hle)
      have su:=hsu kc a oe6 c6 pins s7 (σ.set ie (some (.ref a))) H2 { nx:=fun σ' H'=>∃ tp,H2 tp=none∧σ'=((σ.set ie (some (.ref a))).set it (some (.ref tp))).set io (some (.bl false))∧∀ P F,DHp P F (upd H2 tp (.lst ((bs kc).map V.bl)))→Evo P F (upd H2 tp (.lst ((bs kc).map V.bl))) F H',rt:=fun _ _=>False } K7
        ⟨List.getElem?_set_self (by rw [I.len]; exact (List.getElem?_eq_some_iff.mp hie).1),fun tp htp H' z=>⟨tp,htp,rfl,z⟩⟩
      refine wpAny_mono su (fun fl s8 z=>?_) fun _ _ z=>z.elim
      cases fl with
      | ret u=>obtain ⟨_,_,_,_,_,z⟩:=z; exact z.elim
      | brk=>obtain ⟨_,_,_,z⟩:=z; exact z.elim
      | cont=>obtain ⟨_,_,_,z⟩:=z; exact z.elim
      | next=>
        obtain ⟨σ',H',K8,tp,htp,rfl,ev⟩:=z
        refine goes_ok (X:=X) (K8.uncaught I.ok) hN hie hle fun s9 J9=>⟨_,_,J9,?_⟩
        have E2:Evo P F1 H1 F2 H2:=ID1.toDHp.gd e2 hp2
        have E3:=Evo.laid (o:=.lst ((bs kc).map V.bl)) E2.hp htp
        have E4:=ev P _ E3.hp
        have ID2:=((ID1.evo E2).evo E3).evo E4
        refine kk _ (upd F2 tp (.lst ((bs kc).map V.bl))) H' (ev1.ext.trans (e2.trans E3.ext)) ?_
        have rp:Rep X.K (upd F2 tp (.lst ((bs kc).map V.bl))) (.ref tp) (.lst ((bs kc).map L2.D.bl)):=.lst (SqL.of upd_same) (reps_bls _)
        have ID3:=(ID2.setV it rp).setV io (v:=.bl false) (d:=.bl false) .bl
        refine ID3.other (i:=ie) (by rw [List.getElem?_set_ne (Ne.symm hne2),List.getElem?_set_ne (Ne.symm hne)]; exact hne0) (by simp) fun j hj=>?_
        rw [List.getElem?_set_ne (Ne.symm hj)]
        by_cases h1:j=io
        · subst h1
          simp only [List.getElem?_set,List.length_set,if_true]
        · rw [List.getElem?_set_ne (Ne.symm h1),List.getElem?_set_ne (Ne.symm h1)]
          by_cases h2:j=it
          · subst h2
            simp only [List.getElem?_set,List.length_set,if_true]
          · rw [List.getElem?_set_ne (Ne.symm h2),List.getElem?_set_ne (Ne.symm h2),List.getElem?_set_ne (Ne.symm hj)]
    · cases hf
  · exact wpAny_Try_except (wpAny_mono (hn pins s σ H D I ⟨P,Fr,ρ,r,hf,ID,kk⟩) (fun fl s z=>by cases fl with | next=>exact wpAny_execs_nil z | brk=>exact z | cont=>exact z | ret u=>exact z) fun e s z=>(hX e s z).elim)
section
variable {X:Cx} {a C A1 A2 A3:Addr} {ob:Obj} {pos:Pos} {ie it io:Nat} {er tn on c1 c2 c3:Str} {b1 b2 b3:Bool}
theorem ps_told {q1 q2 q3 q4 q5 q6 q7 q8 q9 qa qb qc qd:Pos} {lp:Pos} (hN:X.N.Nodup) (hie:X.N[ie]?=some er) (hit:X.N[it]?=some tn) (hle:X.env.scope.names.lookup er=some .local) (hlt:X.env.scope.names.lookup tn=some .local)
    (x:ExC X.K C) (hc:ob.cls=.ref C) (hi:Gl X "isinstance") (hmi:X.mg "isinstance"=none) (g1:Gl X c1) (m1:X.mg c1=some (.ref A1)) (g2:Gl X c2) (m2:X.mg c2=some (.ref A2)) (g3:Gl X c3) (m3:X.mg c3=some (.ref A3))
    (k1:kitOne X.K (.ref C) (.ref A1)=some b1) (k2:kitOne X.K (.ref C) (.ref A2)=some b2) (k3:kitOne X.K (.ref C) (.ref A3)=some b3)
    (hd1:(c1 == ("__debug__":Str))=false:=by decide) (hd2:(c2 == ("__debug__":Str))=false:=by decide) (hd3:(c3 == ("__debug__":Str))=false:=by decide) (hde:(er == ("__debug__":Str))=false:=by decide) (hdc:(er == ("__classdict__":Str))=false:=by decide)
    (hs:swapsWithSole [.Name tn q1] (.List [.Call (.Name "isinstance" q2) [.Name er q3,.Name c1 q4] [] q5,.Call (.Name "isinstance" q6) [.Name er q7,.Name c2 q8] [] q9,.Call (.Name "isinstance" qa) [.Name er qb,.Name c3 qc] [] qd] lp) pos.line X.env=pure false:=by rfl)
    (hw:swappedStores [.Name tn q1] (.List [.Call (.Name "isinstance" q2) [.Name er q3,.Name c1 q4] [] q5,.Call (.Name "isinstance" q6) [.Name er q7,.Name c2 q8] [] q9,.Call (.Name "isinstance" qa) [.Name er qb,.Name c3 qc] [] qd] lp) X.env=pure none:=by rfl)
    (h1:(assignEach [.Name tn q1] X.env).map (·.2)=[assign (.Name tn q1) X.env]:=by rfl) :
    PS (X.caught a ob) (.Assign [.Name tn q1] (.List [.Call (.Name "isinstance" q2) [.Name er q3,.Name c1 q4] [] q5,.Call (.Name "isinstance" q6) [.Name er q7,.Name c2 q8] [] q9,.Call (.Name "isinstance" qa) [.Name er qb,.Name c3 qc] [] qd] lp) pos) (tS1 ie it [b1,b2,b3] a):=by
  have ve:∀ q,PE (X.caught a ob) (.Name er q) (tVar ie):=fun q=>pe_var hie (.inl hle) hde hdc
  have e1:=pe_callB (p:=q2) (pos:=q5) (call_isX (a:=a) x hc (c:=.ref A1) (fun u r=>r) k1) hi hmi boot_isinstance (pa_cons (ve q3) (pa_cons (pe_glob (v:=.ref A1) (pos:=q4) g1 m1 rfl hd1) pa_nil)) (by decide) (by decide)
  have e2:=pe_callB (p:=q6) (pos:=q9) (call_isX (a:=a) x hc (c:=.ref A2) (fun u r=>r) k2) hi hmi boot_isinstance (pa_cons (ve q7) (pa_cons (pe_glob (v:=.ref A2) (pos:=q8) g2 m2 rfl hd2) pa_nil)) (by decide) (by decide)
  have e3:=pe_callB (p:=qa) (pos:=qd) (call_isX (a:=a) x hc (c:=.ref A3) (fun u r=>r) k3) hi hmi boot_isinstance (pa_cons (ve qb) (pa_cons (pe_glob (v:=.ref A3) (pos:=qc) g3 m3 rfl hd3) pa_nil)) (by decide) (by decide)
  refine PS.imp (ps_asg (pe_lst (pos:=lp) (pa_cons e1 (pa_cons e2 (pa_cons e3 pa_nil)))) (pg_name (x:=tn) hN hit (.inl hlt) (.inr hlt)) hs hw h1) fun D σ H h=>?_
  obtain ⟨he,k⟩:=h
  exact ⟨_,he,rfl,_,he,rfl,_,he,rfl,by rw [sizeLine_eq]; exact (show 3≤16777216 by decide),fun tp htp=>k tp htp⟩
noncomputable def tS2 (ie io:Nat) (a:Addr):TS:=fun D σ H=>σ[ie]?=some (some (.ref a))∧∀ tq u,H tq=none→D.nx (σ.set io (some (.bl false))) (upd H tq u)
theorem ps_odd {cs:List V} {cvs:List Value} {ts:List Expr} {x1} {q1 qa qb qc p1:Pos} (hN:X.N.Nodup) (hie:X.N[ie]?=some er) (hio:X.N[io]?=some on) (hle:X.env.scope.names.lookup er=some .local) (hlo:X.env.scope.names.lookup on=some .local)
    (x:ExC X.K C) (hc:ob.cls=.ref C) (hi:Gl X "isinstance") (hmi:X.mg "isinstance"=none) (k3:kitAny X.K (.ref C) cvs=some false) (hcv:∀ us,Vals cs us→us=cvs) (hcl:cs.length≤sizeLine) (hts:PA (X.caught a ob) ts (fun σ H Q=>Q cs H))
    (hde:(er == ("__debug__":Str))=false:=by decide) (hdc:(er == ("__classdict__":Str))=false:=by decide)
    (hs:swapsWithSole [.Name on q1] (.Call (.Name "isinstance" qa) [.Name er qb,.Tuple ts x1 qc] [] p1) pos.line X.env=pure false:=by rfl) (hw:swappedStores [.Name on q1] (.Call (.Name "isinstance" qa) [.Name er qb,.Tuple ts x1 qc] [] p1) X.env=pure none:=by rfl)
    (h1:(assignEach [.Name on q1] X.env).map (·.2)=[assign (.Name on q1) X.env]:=by rfl) :
    PS (X.caught a ob) (.Assign [.Name on q1] (.Call (.Name "isinstance" qa) [.Name er qb,.Tuple ts x1 qc] [] p1) pos) (tS2 ie io a):=by
  have ve:∀ q,PE (X.caught a ob) (.Name er q) (tVar ie):=fun q=>pe_var hie (.inl hle) hde hdc
  have e3:=pe_callB (p:=qa) (pos:=p1) (call_isXT (a:=a) x hc hcv k3) hi hmi boot_isinstance (pa_cons (ve qb) (pa_cons (pe_tup (x1:=x1) (pos:=qc) hts) pa_nil)) (by decide) (by decide)
  refine PS.imp (ps_asg e3 (pg_name (x:=on) hN hio (.inl hlo) (.inr hlo)) hs hw h1) fun D σ H h=>?_
  obtain ⟨he,k⟩:=h
  exact ⟨_,he,hcl,fun tp htp=>⟨tp,rfl,upd_same,k tp _ htp⟩⟩
noncomputable def tS3 (ie io:Nat) (a:Addr):TS:=fun D σ H=>σ[ie]?=some (some (.ref a))∧σ[io]?=some (some (.bl false))∧D.nx (σ.set io (some (.bl false))) H
theorem ps_odd2 {q1 q2 q6 q7 q8 q9 p2 p3:Pos} (hN:X.N.Nodup) (hie:X.N[ie]?=some er) (hio:X.N[io]?=some on) (hle:X.env.scope.names.lookup er=some .local) (hlo:X.env.scope.names.lookup on=some .local)
    (x:ExC X.K C) (hc:ob.cls=.ref C) (hi:Gl X "isinstance") (hmi:X.mg "isinstance"=none) (hgv:Gl X "ValueError") (hmv:X.mg "ValueError"=none) (k2:kitOne X.K (.ref C) (.type "ValueError")=some true)
    (hde:(er == ("__debug__":Str))=false:=by decide) (hdc:(er == ("__classdict__":Str))=false:=by decide) (hdo:(on == ("__debug__":Str))=false:=by decide) (hdoc:(on == ("__classdict__":Str))=false:=by decide)
    (hs:swapsWithSole [.Name on q1] (.BoolOp .Or [.Name on q2,.UnaryOp .Not (.Call (.Name "isinstance" q6) [.Name er q7,.Name "ValueError" q8] [] q9) p2] p3) pos.line X.env=pure false:=by rfl) (hw:swappedStores [.Name on q1] (.BoolOp .Or [.Name on q2,.UnaryOp .Not (.Call (.Name "isinstance" q6) [.Name er q7,.Name "ValueError" q8] [] q9) p2] p3) X.env=pure none:=by rfl)
    (h1:(assignEach [.Name on q1] X.env).map (·.2)=[assign (.Name on q1) X.env]:=by rfl) (hve:bootBuiltins "ValueError"=some (.type "ValueError"):=by decide +kernel) :
    PS (X.caught a ob) (.Assign [.Name on q1] (.BoolOp .Or [.Name on q2,.UnaryOp .Not (.Call (.Name "isinstance" q6) [.Name er q7,.Name "ValueError" q8] [] q9) p2] p3) pos) (tS3 ie io a):=by
  have ve:∀ q,PE (X.caught a ob) (.Name er q) (tVar ie):=fun q=>pe_var hie (.inl hle) hde hdc
  have vo:PE (X.caught a ob) (.Name on q2) (tVar io):=pe_var hio (.inl hlo) hdo hdoc
  have e2:=pe_callB (p:=q6) (pos:=q9) (call_isX (a:=a) x hc (c:=.ty "ValueError") (fun u r=>r) k2) hi hmi boot_isinstance (pa_cons (ve q7) (pa_cons (pe_bltn (v:=.ty "ValueError") (pos:=q8) hgv hmv hve rfl (by decide) (by decide)) pa_nil)) (by decide) (by decide)
  refine PS.imp (ps_asg (pe_or (pos:=p3) vo (pe_one (op:=.Or) (pos:=p3) (pe_not (pos:=p2) e2))) (pg_name (x:=on) hN hio (.inl hlo) (.inr hlo)) hs hw h1) fun D σ H h=>?_
  obtain ⟨he,ho,k⟩:=h
  refine ⟨_,ho,false,rfl,?_⟩
  exact ⟨_,he,rfl,true,rfl,k⟩
theorem ps_suite3 {s1 s2 s3:Stmt} {bs:List Bool} (h1:PS (X.caught a ob) s1 (tS1 ie it bs a)) (h2:PS (X.caught a ob) s2 (tS2 ie io a)) (h3:PS (X.caught a ob) s3 (tS3 ie io a)) (n1:it≠ie) (n2:io≠ie) (hio:io < X.N.length) (hlen:∀ pins σ H s,Inv (X.caught a ob) pins σ H s→σ.length=X.N.length:=fun _ _ _ _ I=>I.len) :
    PSs (X.caught a ob) [s1,s2,s3] (fun D σ H=>σ.length=X.N.length∧tSu3 ie it io bs a D σ H):=PSs.imp (pss_cons h1 (pss_cons h2 (pss_one h3))) fun D σ H h=>by
  obtain ⟨hl,he,k⟩:=h
  refine ⟨he,fun tp htp=>?_⟩
  refine ⟨by rw [List.getElem?_set_ne n1]; exact he,fun tq u htq=>?_⟩
  refine ⟨by rw [List.getElem?_set_ne n2,List.getElem?_set_ne n1]; exact he,List.getElem?_set_self (by rw [List.length_set,hl]; exact hio),?_⟩
  rw [List.set_set]
  exact k tp htp _ fun P F hp=>Evo.side hp htq
theorem ps_suite3' {s1 s2 s3:Stmt} {bs:List Bool} (h1:PS (X.caught a ob) s1 (tS1 ie it bs a)) (h2:PS (X.caught a ob) s2 (tS2 ie io a)) (h3:PS (X.caught a ob) s3 (tS3 ie io a)) (n1:it≠ie) (n2:io≠ie) (hio:io < X.N.length) :
    PSs (X.caught a ob) [s1,s2,s3] (tSu3 ie it io bs a):=fun pins s σ H D I q=>ps_suite3 h1 h2 h3 n1 n2 hio (fun _ _ _ _ I=>I.len) pins s σ H D I ⟨I.len,q⟩
end
theorem pxs_never {X:Cx} {cl:Nat→Addr} {E:XK} {sts:List Stmt}:PXS X cl E sts (fun _=>none):=PSs.imp pss_never fun D σ H h=>by
  obtain ⟨_,_,_,_,h,_⟩:=h
  cases h
end L2
namespace L2
open PySem PySem.Spec PyProof.Rows
noncomputable def nisD (x y:D):Option D:=match x,y with
  | .str a,.str b=>some (.bl (Builtin.Str.occurrences b a 0 b.length 1).isEmpty)
  | _,_=>none
section
variable {X:Cx} {a b:Expr} {pos:Pos}
theorem op_nis:OpR X (compareOp .NotIn) (fun x y H Q=>∃ u v,x=.str u∧y=.str v∧Q (.bl (Builtin.Str.occurrences v u 0 v.length 1).isEmpty) H):=by
  intro pins s σ H x y v u Q I rx ry h
  obtain ⟨p,q,rfl,rfl,hq⟩:=h
  obtain ⟨t,rfl⟩:=(show ∃ t,v=Value.str p t from rx)
  obtain ⟨t',rfl⟩:=(show ∃ t,u=Value.str q t from ry)
  refine PySem.P.notIn_str ?_
  exact ⟨.bl _,H,I,rfl,by first | exact hq | simpa using hq⟩
theorem od_nis {K:PySem.W.Frag}:OpN2 K (fun x y H Q=>∃ u v,x=.str u∧y=.str v∧Q (.bl (Builtin.Str.occurrences v u 0 v.length 1).isEmpty) H) nisD:=by
  intro P F H x y dx dy d Q hf hp rx ry k
  unfold nisD at hf
  split at hf
  · cases hf
    cases rx
    cases ry
    exact ⟨_,_,rfl,rfl,k _ F H (Evo.refl hp) .bl⟩
  · cases hf
theorem pt_nis {fa fb:DF→Option D} (ha:PDN X a fa) (hb:PDN X b fb) (hm:behindInMarks .NotIn b=false:=by with_unfolding_all rfl):PDT X (.Compare a [.NotIn] [b] pos) (asB (d2 nisD fa fb)):=ptn_cmp op_nis od_nis ha hb hm
end
end L2
namespace My
open PySem PySem.Spec PyProof.Rows L2
noncomputable section
noncomputable def top (i:Nat):Stmt:=PySem.Challenge.pw_tieword_k01_webs.main.body.getD i (.Pass ⟨0,0,0,0⟩)
noncomputable abbrev s_q12:Stmt:=top 28
noncomputable abbrev s_q18:Stmt:=top 30
noncomputable abbrev s_q11:Stmt:=top 31
noncomputable abbrev s_q15:Stmt:=top 35
noncomputable abbrev s_q7:Stmt:=top 36
noncomputable abbrev s_q9:Stmt:=top 37
noncomputable abbrev s_q8:Stmt:=top 27
noncomputable abbrev s_q2:Stmt:=top 18
noncomputable abbrev s_q4:Stmt:=top 19
noncomputable abbrev s_q3:Stmt:=top 20
noncomputable abbrev s_q22:Stmt:=top 21
noncomputable abbrev s_q20:Stmt:=top 22
noncomputable abbrev s_q21:Stmt:=top 23
noncomputable abbrev s_q5:Stmt:=top 24
noncomputable abbrev s_q0:Stmt:=inClass (top 25) 0
noncomputable abbrev s_q19:Stmt:=top 38
noncomputable abbrev s_q10:Stmt:=top 39
noncomputable abbrev s_q13:Stmt:=top 32
noncomputable abbrev s_q17:Stmt:=top 29
noncomputable abbrev s_q14:Stmt:=top 33
noncomputable abbrev s_q16:Stmt:=top 34
noncomputable abbrev s_q1:Stmt:=inClass (top 25) 1
noncomputable abbrev s_q6:Stmt:=top 40
set_option genInjectivity false
set_option genSizeOf false
set_option genSizeOfSpec false
structure Adr where
  C:Addr
  f_q12:Addr
  d_q12:FuncData
  f_q18:Addr
  d_q18:FuncData
  f_q11:Addr
  d_q11:FuncData
  f_q15:Addr
  d_q15:FuncData
  f_q7:Addr
  d_q7:FuncData
  f_q9:Addr
  d_q9:FuncData
  f_q8:Addr
  d_q8:FuncData
  f_q2:Addr
  d_q2:FuncData
  f_q4:Addr
  d_q4:FuncData
  f_q3:Addr
  d_q3:FuncData
  f_q22:Addr
  d_q22:FuncData
  f_q20:Addr
  d_q20:FuncData
  f_q21:Addr
  d_q21:FuncData
  f_q5:Addr
  d_q5:FuncData
  f_q0:Addr
  d_q0:FuncData
  f_q19:Addr
  d_q19:FuncData
  f_q10:Addr
  d_q10:FuncData
  f_q13:Addr
  d_q13:FuncData
  f_q17:Addr
  d_q17:FuncData
  f_q14:Addr
  d_q14:FuncData
  f_q16:Addr
  d_q16:FuncData
  f_q1:Addr
  d_q1:FuncData
  f_q6:Addr
  d_q6:FuncData
  tk_MOST_PLACES:Tok
  tk_MOST_TIES:Tok
  tk_MOST_LETTERS:Tok
  x_WebError:Addr
  x_TooGreat:Addr
  x_BadPlace:Addr
  x_BadTie:Addr
  x_BadName:Addr
  x_BadOrder:Addr
  x_BadRule:Addr
  x_BadText:Addr
  x_NoWay:Addr
  x_NoWeb:Addr
  x_TooMany:Addr
  x_Twice:Addr
noncomputable def cl3 (a b c:Addr):Nat→Addr
  | 0=>a
  | 1=>b
  | _=>c
noncomputable def bs3 (k:Nat):List Bool:=[decide (k=0),decide (k=1),decide (2≤k)]
noncomputable abbrev Adr.cl (t:Adr):Nat→Addr:=cl3 t.x_TooGreat t.x_BadPlace t.x_BadTie
structure Txt (K:PySem.W.Frag) (mg:Str→Option Value) (t:Adr):Prop where
  cl:Cls K t.C
  mkC:Mk K t.C t.f_q0
  mgC:mg "Web"=some (.ref t.C)
  na_joins:NoAttr K t.C "joins"
  na_kinds:NoAttr K t.C "kinds"
  na_ties:NoAttr K t.C "ties"
  fn_q12:Fun K "_law_mix" "_law_mix" s_q12 t.f_q12 t.d_q12
  bd_q12:Binds K t.d_q12 ["_law_cell", "_law_k"] []
  g_q12:mg "_law_mix"=some (.ref t.f_q12)
  fn_q18:Fun K "_law_word" "_law_word" s_q18 t.f_q18 t.d_q18
  bd_q18:Binds K t.d_q18 ["_law_seed", "_law_which"] []
  g_q18:mg "_law_word"=some (.ref t.f_q18)
  fn_q11:Fun K "_law_kind" "_law_kind" s_q11 t.f_q11 t.d_q11
  bd_q11:Binds K t.d_q11 ["_law_cell", "_law_seed"] []
  g_q11:mg "_law_kind"=some (.ref t.f_q11)
  fn_q15:Fun K "_law_ties" "_law_ties" s_q15 t.f_q15 t.d_q15
  bd_q15:Binds K t.d_q15 ["_law_cells_here", "_law_seed", "_law_many"] []
  g_q15:mg "_law_ties"=some (.ref t.f_q15)
  fn_q7:Fun K "_law_bad_tie" "_law_bad_tie" s_q7 t.f_q7 t.d_q7
  bd_q7:Binds K t.d_q7 ["_law_tie", "_law_many", "_law_far", "_law_how"] []
  g_q7:mg "_law_bad_tie"=some (.ref t.f_q7)
  fn_q9:Fun K "_law_drawn" "_law_drawn" s_q9 t.f_q9 t.d_q9
  bd_q9:Binds K t.d_q9 ["_law_cells_here"] []
  g_q9:mg "_law_drawn"=some (.ref t.f_q9)
  fn_q8:Fun K "_law_cells" "_law_cells" s_q8 t.f_q8 t.d_q8
  bd_q8:Binds K t.d_q8 ["_law_script", "_law_at", "_law_many"] []
  g_q8:mg "_law_cells"=some (.ref t.f_q8)
  fn_q2:Fun K "is_place_kind" "is_place_kind" s_q2 t.f_q2 t.d_q2
  bd_q2:Binds K t.d_q2 ["kind"] []
  g_q2:mg "is_place_kind"=some (.ref t.f_q2)
  fn_q4:Fun K "is_tie_kind" "is_tie_kind" s_q4 t.f_q4 t.d_q4
  bd_q4:Binds K t.d_q4 ["kind"] []
  g_q4:mg "is_tie_kind"=some (.ref t.f_q4)
  fn_q3:Fun K "is_tie" "is_tie" s_q3 t.f_q3 t.d_q3
  bd_q3:Binds K t.d_q3 ["tie", "size"] []
  g_q3:mg "is_tie"=some (.ref t.f_q3)
  fn_q22:Fun K "refuse_wrong" "refuse_wrong" s_q22 t.f_q22 t.d_q22
  bd_q22:Binds K t.d_q22 ["kinds", "ties"] []
  g_q22:mg "refuse_wrong"=some (.ref t.f_q22)
  fn_q20:Fun K "lesser_first" "lesser_first" s_q20 t.f_q20 t.d_q20
  bd_q20:Binds K t.d_q20 ["tie"] []
  g_q20:mg "lesser_first"=some (.ref t.f_q20)
  fn_q21:Fun K "put_pair" "put_pair" s_q21 t.f_q21 t.d_q21
  bd_q21:Binds K t.d_q21 ["joins", "ends", "pair"] []
  g_q21:mg "put_pair"=some (.ref t.f_q21)
  fn_q5:Fun K "joins_of" "joins_of" s_q5 t.f_q5 t.d_q5
  bd_q5:Binds K t.d_q5 ["ties"] []
  g_q5:mg "joins_of"=some (.ref t.f_q5)
  fn_q0:Fun K "__init__" "Web.__init__" s_q0 t.f_q0 t.d_q0
  bd_q0:Binds K t.d_q0 ["self", "kinds", "ties"] []
  fn_q19:Fun K "_law_word_is" "_law_word_is" s_q19 t.f_q19 t.d_q19
  bd_q19:Binds K t.d_q19 ["_law_kind_here"] []
  g_q19:mg "_law_word_is"=some (.ref t.f_q19)
  fn_q10:Fun K "_law_due" "_law_due" s_q10 t.f_q10 t.d_q10
  bd_q10:Binds K t.d_q10 ["_law_kinds", "_law_ties_here"] []
  g_q10:mg "_law_due"=some (.ref t.f_q10)
  fn_q13:Fun K "_law_plain" "_law_plain" s_q13 t.f_q13 t.d_q13
  bd_q13:Binds K t.d_q13 ["_law_ties_here"] []
  g_q13:mg "_law_plain"=some (.ref t.f_q13)
  fn_q17:Fun K "_law_whole" "_law_whole" s_q17 t.f_q17 t.d_q17
  bd_q17:Binds K t.d_q17 ["_law_found"] []
  g_q17:mg "_law_whole"=some (.ref t.f_q17)
  fn_q14:Fun K "_law_tie_is" "_law_tie_is" s_q14 t.f_q14 t.d_q14
  bd_q14:Binds K t.d_q14 ["_law_found", "_law_due_here"] []
  g_q14:mg "_law_tie_is"=some (.ref t.f_q14)
  fn_q16:Fun K "_law_web_is" "_law_web_is" s_q16 t.f_q16 t.d_q16
  bd_q16:Binds K t.d_q16 ["_law_web", "_law_kinds", "_law_ties_here"] []
  g_q16:mg "_law_web_is"=some (.ref t.f_q16)
  fn_q1:Fun K "size" "Web.size" s_q1 t.f_q1 t.d_q1
  bd_q1:Binds K t.d_q1 ["self"] []
  mt_q1:Meth K t.C "size" t.f_q1
  fn_q6:Fun K "law" "law" s_q6 t.f_q6 t.d_q6
  bd_q6:Binds K t.d_q6 ["_law_script"] []
  g_q6:mg "law"=some (.ref t.f_q6)
  b_ValueError:mg "ValueError"=none
  b_all:mg "all"=none
  b_bool:mg "bool"=none
  b_int:mg "int"=none
  b_isinstance:mg "isinstance"=none
  b_len:mg "len"=none
  b_list:mg "list"=none
  b_max:mg "max"=none
  b_min:mg "min"=none
  b_range:mg "range"=none
  b_sorted:mg "sorted"=none
  b_str:mg "str"=none
  b_tuple:mg "tuple"=none
  b_zip:mg "zip"=none
  c_MOST_PLACES:mg "MOST_PLACES"=some (.int 7 t.tk_MOST_PLACES)
  c_MOST_TIES:mg "MOST_TIES"=some (.int 12 t.tk_MOST_TIES)
  c_MOST_LETTERS:mg "MOST_LETTERS"=some (.int 3 t.tk_MOST_LETTERS)
  icC:IsC K t.C
  mx_WebError:mg "WebError"=some (.ref t.x_WebError)
  mx_TooGreat:mg "TooGreat"=some (.ref t.x_TooGreat)
  mx_BadPlace:mg "BadPlace"=some (.ref t.x_BadPlace)
  mx_BadTie:mg "BadTie"=some (.ref t.x_BadTie)
  mx_BadName:mg "BadName"=some (.ref t.x_BadName)
  mx_BadOrder:mg "BadOrder"=some (.ref t.x_BadOrder)
  mx_BadRule:mg "BadRule"=some (.ref t.x_BadRule)
  mx_BadText:mg "BadText"=some (.ref t.x_BadText)
  mx_NoWay:mg "NoWay"=some (.ref t.x_NoWay)
  mx_NoWeb:mg "NoWeb"=some (.ref t.x_NoWeb)
  mx_TooMany:mg "TooMany"=some (.ref t.x_TooMany)
  mx_Twice:mg "Twice"=some (.ref t.x_Twice)
  exC:∀ k,ExC K (t.cl k)
  k0:∀ k,PySem.W.kitOne K (.ref (t.cl k)) (.ref t.x_TooGreat)=some (decide (k=0))
  k1:∀ k,PySem.W.kitOne K (.ref (t.cl k)) (.ref t.x_BadPlace)=some (decide (k=1))
  k2:∀ k,PySem.W.kitOne K (.ref (t.cl k)) (.ref t.x_BadTie)=some (decide (2≤k))
  k3:∀ k,PySem.W.kitOne K (.ref (t.cl k)) (.type "ValueError")=some true
  k4:∀ k,PySem.W.kitAny K (.ref (t.cl k)) [.ref t.x_BadName,.ref t.x_BadOrder,.ref t.x_BadRule,.ref t.x_BadText,.ref t.x_NoWay,.ref t.x_NoWeb,.ref t.x_TooMany,.ref t.x_Twice]=some false
  xm:∀ k,PySem.W.exmOne K (.ref (t.cl k)) (.ref t.x_WebError)=some true
  xi:∀ k,PySem.W.excIn K (t.cl k) vErr "ValueError.__new__"=true
noncomputable abbrev K0:PySem.W.Frag:=[]
noncomputable abbrev N_q12:List Str:=["_law_cell", "_law_k", "_law_seed"]
theorem sc_q12:FnScope N_q12 ["_law_cell", "_law_k"] (defScope s_q12):=⟨rfl,rfl,rfl,by decide +kernel,rfl,by decide +kernel,by decide +kernel⟩
noncomputable def g_q12 (C:Addr):DF→Option RES:=
    (dSeq (dSet 2 (d2 modD (d2 mulD (d2 addA (d2 addA (d2 modD (getR 0) (fun _=>some (.int 2147483647))) (fun _=>some (.int 1))) (d2 mulD (d2 mulD (fun _=>some (.int 7919)) (getR 1)) (getR 1))) (fun _=>some (.int 48271))) (fun _=>some (.int 2147483629))))
    (dRet (d2 modD (d2 mulD (getR 2) (getR 2)) (fun _=>some (.int 998244353)))))
noncomputable def m_q12 (C:Addr):List DV→Option DV:=mOf 3 2 (g_q12 C)
theorem ok_q12 {P:Program} {w:World} {K:PySem.W.Frag} {mg:Str→Option Value} {base:Heap} {t:Adr} (T:Txt K mg t):FnOk P w K mg base CX0 1 t.f_q12 t.d_q12 ["_law_cell", "_law_k"] (spD K (m_q12 t.C)):=
  T.fn_q12.okD sc_q12 fun cdv A outer s H E hr=>(pds_cons (pd_set (i:=2) sc_q12.nd rfl (by first | exact Or.inl rfl | exact Or.inr rfl) (pd_mod (PDE.r (pd_mul (PDE.r (pd_addA (PDE.r (pd_addA (PDE.r (pd_mod (pdr_of 0 (pv 0)) (PDE.r pd_int))) (PDE.r pd_int))) (PDE.r (pd_mul (PDE.r (pd_mul (PDE.r pd_int) (pdr_of 1 (pv 1)))) (pdr_of 1 (pv 1)))))) (PDE.r pd_int))) (PDE.r pd_int))) (pds_one (pd_ret (pd_mod (PDE.r (pd_mul (pdr_of 2 (pv 2)) (pdr_of 2 (pv 2)))) (PDE.r pd_int)))))
noncomputable abbrev N_q18:List Str:=["_law_seed", "_law_which", "_law_letters", "_law_base", "_law_size", "_law_place", "_law_sign"]
theorem sc_q18:FnScope N_q18 ["_law_seed", "_law_which"] (defScope s_q18):=⟨rfl,rfl,rfl,by decide +kernel,rfl,by decide +kernel,by decide +kernel⟩
noncomputable def g_q18 (C:Addr):DF→Option RES:=
    (dSeq (dSet 2 (fun _=>some (.str "abcdefghijklmnopqrstuvwxyz")))
    (dSeq (dSet 3 (d2 joinM (fun _=>some (.str "")) (asO (asL (dComp 1 [2,0] (rng1 (fun _=>some (.int 3))) (setV 0) dYes (d2 ixD (getR 1) (d2 modD (d2 addA (d2 fdivD (getR 2) (fun _=>some (.int 9))) (d2 mulD (fun _=>some (.int 7)) (getR 0))) (fun _=>some (.int 26)))))))))
    (dSeq (dSet 4 (d2 addA (fun _=>some (.int 1)) (d2 modD (getR 0) (fun _=>some (.int 3)))))
    (dSeq (dIf (asB (d2 eqD (d2 modD (d2 fdivD (getR 0) (fun _=>some (.int 3))) (fun _=>some (.int 4))) (fun _=>some (.int 0)))) (dRet (slS (getR 3) bNo (bI (d2 addA (fun _=>some (.int 1)) (d2 modD (getR 1) (fun _=>some (.int 3))))))) dNx)
    (dSeq (dSet 5 (d2 modD (d2 fdivD (getR 0) (fun _=>some (.int 3))) (getR 4)))
    (dSeq (dSet 6 (d2 ixD (getR 2) (d2 modD (d2 addA (d2 addA (d2 fdivD (getR 0) (fun _=>some (.int 9))) (d2 mulD (fun _=>some (.int 7)) (getR 5))) (getR 1)) (fun _=>some (.int 26)))))
    (dRet (d2 addA (d2 addA (slS (getR 3) bNo (bI (getV 5))) (getR 6)) (slS (getR 3) (bI (d2 addA (getR 5) (fun _=>some (.int 1)))) (bI (getV 4)))))))))))
noncomputable def m_q18 (C:Addr):List DV→Option DV:=mOf 7 2 (g_q18 C)
theorem ok_q18 {P:Program} {w:World} {K:PySem.W.Frag} {mg:Str→Option Value} {base:Heap} {t:Adr} (T:Txt K mg t):FnOk P w K mg base CX0 1 t.f_q18 t.d_q18 ["_law_seed", "_law_which"] (spD K (m_q18 t.C)):=
  T.fn_q18.okD sc_q18 fun cdv A outer s H E hr=>(pds_cons (pd_set (i:=2) sc_q18.nd rfl (by first | exact Or.inl rfl | exact Or.inr rfl) pd_str) (pds_cons (pd_set (i:=3) sc_q18.nd rfl (by first | exact Or.inl rfl | exact Or.inr rfl) (pd_join (PDE.n pd_str) (PDE.n (PDO.v (pdo_comp (N:=["_law_k", "_law_letters", "_law_seed"]) (own:=1) (ix:=[2,0]) (is:=[0]) rfl (bs_mk (defScope s_q18) rfl (by decide +kernel)) (cp_mk N_q18 rfl (by decide +kernel)) (his_mk (by decide)) (pdi_range1 rfl T.b_range (PDE.r pd_int)) (fun _ _ _ _=>(pdg_name (i:=0) (show (["_law_k", "_law_letters", "_law_seed"]:List Str).Nodup from by decide +kernel) rfl (by first | exact Or.inl rfl | exact Or.inr rfl))) (fun _ _ _ _=>pifs0) (fun _ _ _ _=>(pd_ix (pdr_of 1 (pv 1)) (PDE.r (pd_mod (PDE.r (pd_addA (PDE.r (pd_fdiv (pdr_of 2 (pv 2)) (PDE.r pd_int))) (PDE.r (pd_mul (PDE.r pd_int) (pdr_of 0 (pv 0)))))) (PDE.r pd_int))))) (by decide +kernel)))))) (pds_cons (pd_set (i:=4) sc_q18.nd rfl (by first | exact Or.inl rfl | exact Or.inr rfl) (pd_addA (PDE.r pd_int) (PDE.r (pd_mod (pdr_of 0 (pv 0)) (PDE.r pd_int))))) (pds_cons (pd_if (pt_eq hr.h64 (PDE.n (pd_mod (PDE.r (pd_fdiv (pdr_of 0 (pv 0)) (PDE.r pd_int))) (PDE.r pd_int))) (PDE.n pd_int)) (pds_one (pd_ret (pd_sliceS (pdr_of 3 (pv 3)) pdb_no (pdb_i (pd_addA (PDE.r pd_int) (PDE.r (pd_mod (pdr_of 1 (pv 1)) (PDE.r pd_int)))))))) pds_nil) (pds_cons (pd_set (i:=5) sc_q18.nd rfl (by first | exact Or.inl rfl | exact Or.inr rfl) (pd_mod (PDE.r (pd_fdiv (pdr_of 0 (pv 0)) (PDE.r pd_int))) (pdr_of 4 (pv 4)))) (pds_cons (pd_set (i:=6) sc_q18.nd rfl (by first | exact Or.inl rfl | exact Or.inr rfl) (pd_ix (pdr_of 2 (pv 2)) (PDE.r (pd_mod (PDE.r (pd_addA (PDE.r (pd_addA (PDE.r (pd_fdiv (pdr_of 0 (pv 0)) (PDE.r pd_int))) (PDE.r (pd_mul (PDE.r pd_int) (pdr_of 5 (pv 5)))))) (pdr_of 1 (pv 1)))) (PDE.r pd_int))))) (pds_one (pd_ret (pd_addA (PDE.r (pd_addA (PDE.r (pd_sliceS (pdr_of 3 (pv 3)) pdb_no (pdb_i (pde_of 5 (pv 5))))) (pdr_of 6 (pv 6)))) (PDE.r (pd_sliceS (pdr_of 3 (pv 3)) (pdb_i (pd_addA (pdr_of 5 (pv 5)) (PDE.r pd_int))) (pdb_i (pde_of 4 (pv 4))))))))))))))
noncomputable abbrev N_q11:List Str:=["_law_cell", "_law_seed", "_law_far", "_law_how"]
theorem sc_q11:FnScope N_q11 ["_law_cell", "_law_seed"] (defScope s_q11):=⟨rfl,rfl,rfl,by decide +kernel,rfl,by decide +kernel,by decide +kernel⟩
noncomputable def g_q11 (C:Addr):DF→Option RES:=
    (dSeq (dSet 2 (d2 modD (d2 mulD (d2 addA (getR 1) (fun _=>some (.int 1))) (fun _=>some (.int 618033988749894848204586834367))) (d2 powD (fun _=>some (.int 10)) (fun _=>some (.int 30)))))
    (dSeq (dSet 3 (d2 modD (callV (m_q12 C) (aB 0 (aV (fun _=>some (.int 3)) (fun _=>some [])))) (fun _=>some (.int 5))))
    (dSeq (dIf (asB (d2 eqD (getN 3) (fun _=>some (.int 4)))) (dRet (d2 modD (getR 0) (d2 powD (fun _=>some (.int 10)) (fun _=>some (.int 30))))) dNx)
    (dRet (d2 ixD (asO (asL (lcons (getV 2) (lcons (getV 2) (lcons (d2 modD (d2 addA (getR 2) (fun _=>some (.int 1))) (d2 powD (fun _=>some (.int 10)) (fun _=>some (.int 30)))) (lcons (fun _=>some (.int 0)) lnil)))))) (getR 3))))))
noncomputable def m_q11 (C:Addr):List DV→Option DV:=mOf 4 2 (g_q11 C)
theorem ok_q11 {P:Program} {w:World} {K:PySem.W.Frag} {mg:Str→Option Value} {base:Heap} {t:Adr} (T:Txt K mg t):FnOk P w K mg base CX0 2 t.f_q11 t.d_q11 ["_law_cell", "_law_seed"] (spD K (m_q11 t.C)):=
  T.fn_q11.okD sc_q11 fun cdv A outer s H E hr=>(pds_cons (pd_set (i:=2) sc_q11.nd rfl (by first | exact Or.inl rfl | exact Or.inr rfl) (pd_mod (PDE.r (pd_mul (PDE.r (pd_addA (pdr_of 1 (pv 1)) (PDE.r pd_int))) (PDE.r pd_int))) (PDE.r (pd_pow (PDE.r pd_int) (PDE.r pd_int))))) (pds_cons (pd_set (i:=3) sc_q11.nd rfl (by first | exact Or.inl rfl | exact Or.inr rfl) (pd_mod (PDE.r (pd_call (ok_q12 T) (hr.mono (by decide)) rfl T.g_q12 T.fn_q12.kp T.bd_q12 (pdv_b 0 (pv 0) (pdv_v pd_int pdv_nil)))) (PDE.r pd_int))) (pds_cons (pd_if (pt_eq hr.h64 (pdn_of 3 (pv 3)) (PDE.n pd_int)) (pds_one (pd_ret (pd_mod (pdr_of 0 (pv 0)) (PDE.r (pd_pow (PDE.r pd_int) (PDE.r pd_int)))))) pds_nil) (pds_one (pd_ret (pd_ix (PDE.r (PDO.v (pdo_lst (pdl_cons (pde_of 2 (pv 2)) (pdl_cons (pde_of 2 (pv 2)) (pdl_cons (pd_mod (PDE.r (pd_addA (pdr_of 2 (pv 2)) (PDE.r pd_int))) (PDE.r (pd_pow (PDE.r pd_int) (PDE.r pd_int)))) (pdl_cons pd_int pdl_nil))))))) (pdr_of 3 (pv 3))))))))
noncomputable abbrev N_q15:List Str:=["_law_cells_here", "_law_seed", "_law_many", "_law_ties_here", "_law_count", "_law_k", "_law_cell", "_law_draw", "_law_one", "_law_other"]
theorem sc_q15:FnScope N_q15 ["_law_cells_here", "_law_seed", "_law_many"] (defScope s_q15):=⟨rfl,rfl,rfl,by decide +kernel,rfl,by decide +kernel,by decide +kernel⟩
noncomputable def g_q15 (C:Addr):DF→Option RES:=
    (dSeq (dSetO 3 (asL lnil))
    (dSeq (dSet 4 (d2 modD (callV (m_q12 C) (aB 1 (aV (fun _=>some (.int 4)) (fun _=>some [])))) (fun _=>some (.int 13))))
    (dSeq (dIf (asB (d2 eqD (d2 modD (callV (m_q12 C) (aB 1 (aV (fun _=>some (.int 5)) (fun _=>some [])))) (fun _=>some (.int 9))) (fun _=>some (.int 0)))) (dSet 4 (d2 addA (fun _=>some (.int 13)) (d2 modD (getR 1) (fun _=>some (.int 2))))) dNx)
    (dSeq (dFor (rng1 (getR 4)) (setV 5) (dSeq (dSet 6 (d2 addA (d2 ixD (getR 0) (d2 modD (getR 5) (d1 lenD (getN 0)))) (d2 fdivD (getR 5) (d1 lenD (getN 0)))))
    (dSeq (dSet 7 (callV (m_q12 C) (aB 6 (aV (fun _=>some (.int 8)) (fun _=>some [])))))
    (dSeq (dSet 8 (d2 modD (getR 7) (getR 2)))
    (dSeq (dSet 9 (d2 modD (d2 addA (d2 addA (getR 8) (fun _=>some (.int 1))) (d2 modD (d2 fdivD (getR 7) (fun _=>some (.int 7))) (d2 subD (getR 2) (fun _=>some (.int 1))))) (getR 2)))
    (dSeq (dApp 3 (asT (lcons (getV 8) (lcons (getV 9) (lcons (callV (m_q11 C) (aB 6 (aB 1 (fun _=>some [])))) (lcons (d2 eqD (d2 modD (d2 fdivD (getR 7) (fun _=>some (.int 49))) (fun _=>some (.int 2))) (fun _=>some (.int 0))) lnil))))))
    (dIf (andT (asB (d2 eqD (d2 modD (d2 fdivD (getR 7) (fun _=>some (.int 98))) (fun _=>some (.int 5))) (fun _=>some (.int 0)))) (asB (d2 gtI (getR 5) (fun _=>some (.int 0))))) (dSetIx 3 (getV 5) (d2 ixD (getR 3) (d2 subD (getR 5) (fun _=>some (.int 1))))) dNx)))))))
    (dRetS 3)))))
noncomputable def m_q15 (C:Addr):List DV→Option DV:=mOf 10 3 (g_q15 C)
theorem ok_q15 {P:Program} {w:World} {K:PySem.W.Frag} {mg:Str→Option Value} {base:Heap} {t:Adr} (T:Txt K mg t):FnOk P w K mg base CX0 3 t.f_q15 t.d_q15 ["_law_cells_here", "_law_seed", "_law_many"] (spD K (m_q15 t.C)):=
  T.fn_q15.okD sc_q15 fun cdv A outer s H E hr=>(pds_cons (pd_setO (i:=3) sc_q15.nd rfl (by first | exact Or.inl rfl | exact Or.inr rfl) (pdo_lst pdl_nil)) (pds_cons (pd_set (i:=4) sc_q15.nd rfl (by first | exact Or.inl rfl | exact Or.inr rfl) (pd_mod (PDE.r (pd_call (ok_q12 T) (hr.mono (by decide)) rfl T.g_q12 T.fn_q12.kp T.bd_q12 (pdv_b 1 (pv 1) (pdv_v pd_int pdv_nil)))) (PDE.r pd_int))) (pds_cons (pd_if (pt_eq hr.h64 (PDE.n (pd_mod (PDE.r (pd_call (ok_q12 T) (hr.mono (by decide)) rfl T.g_q12 T.fn_q12.kp T.bd_q12 (pdv_b 1 (pv 1) (pdv_v pd_int pdv_nil)))) (PDE.r pd_int))) (PDE.n pd_int)) (pds_one (pd_set (i:=4) sc_q15.nd rfl (by first | exact Or.inl rfl | exact Or.inr rfl) (pd_addA (PDE.r pd_int) (PDE.r (pd_mod (pdr_of 1 (pv 1)) (PDE.r pd_int)))))) pds_nil) (pds_cons (pd_for PassesOwn.never rfl (pdi_range1 rfl T.b_range (pdr_of 4 (pv 4))) (pdg_name (i:=5) sc_q15.nd rfl (by first | exact Or.inl rfl | exact Or.inr rfl)) (pds_cons (pd_set (i:=6) sc_q15.nd rfl (by first | exact Or.inl rfl | exact Or.inr rfl) (pd_addA (PDE.r (pd_ix (pdr_of 0 (pv 0)) (PDE.r (pd_mod (pdr_of 5 (pv 5)) (PDE.r (pn_len rfl T.b_len (pdn_of 0 (pv 0)))))))) (PDE.r (pd_fdiv (pdr_of 5 (pv 5)) (PDE.r (pn_len rfl T.b_len (pdn_of 0 (pv 0)))))))) (pds_cons (pd_set (i:=7) sc_q15.nd rfl (by first | exact Or.inl rfl | exact Or.inr rfl) (pd_call (ok_q12 T) (hr.mono (by decide)) rfl T.g_q12 T.fn_q12.kp T.bd_q12 (pdv_b 6 (pv 6) (pdv_v pd_int pdv_nil)))) (pds_cons (pd_set (i:=8) sc_q15.nd rfl (by first | exact Or.inl rfl | exact Or.inr rfl) (pd_mod (pdr_of 7 (pv 7)) (pdr_of 2 (pv 2)))) (pds_cons (pd_set (i:=9) sc_q15.nd rfl (by first | exact Or.inl rfl | exact Or.inr rfl) (pd_mod (PDE.r (pd_addA (PDE.r (pd_addA (pdr_of 8 (pv 8)) (PDE.r pd_int))) (PDE.r (pd_mod (PDE.r (pd_fdiv (pdr_of 7 (pv 7)) (PDE.r pd_int))) (PDE.r (pd_sub (pdr_of 2 (pv 2)) (PDE.r pd_int))))))) (pdr_of 2 (pv 2)))) (pds_cons (pd_append 3 (pv 3) (pd_tup (pdl_cons (pde_of 8 (pv 8)) (pdl_cons (pde_of 9 (pv 9)) (pdl_cons (pd_call (ok_q11 T) (hr.mono (by decide)) rfl T.g_q11 T.fn_q11.kp T.bd_q11 (pdv_b 6 (pv 6) (pdv_b 1 (pv 1) pdv_nil))) (pdl_cons (pd_eq hr.h64 (PDE.n (pd_mod (PDE.r (pd_fdiv (pdr_of 7 (pv 7)) (PDE.r pd_int))) (PDE.r pd_int))) (PDE.n pd_int)) pdl_nil)))))) (pds_one (pd_if (PDW.t (pw_andD (pt_eq hr.h64 (PDE.n (pd_mod (PDE.r (pd_fdiv (pdr_of 7 (pv 7)) (PDE.r pd_int))) (PDE.r pd_int))) (PDE.n pd_int)) (pw_and1D (pt_gt (pdr_of 5 (pv 5)) (PDE.r pd_int))))) (pds_one (pd_setIx 3 (pv 3) (pde_of 5 (pv 5)) (pd_ix (pdr_of 3 (pv 3)) (PDE.r (pd_sub (pdr_of 5 (pv 5)) (PDE.r pd_int)))))) pds_nil)))))))) (pds_one (pd_retS 3 (pv 3)))))))
noncomputable abbrev N_q7:List Str:=["_law_tie", "_law_many", "_law_far", "_law_how", "_law_one", "_law_other", "_law_kind_here", "_law_oneway", "_law_some"]
theorem sc_q7:FnScope N_q7 ["_law_tie", "_law_many", "_law_far", "_law_how"] (defScope s_q7):=⟨rfl,rfl,rfl,by decide +kernel,rfl,by decide +kernel,by decide +kernel⟩
noncomputable def g_q7 (C:Addr):DF→Option RES:=
    (dSeq (dSetT [4,5,6,7] (getV 0))
    (dSeq (dSet 8 (asO (asL (lcons (asT (lcons (getV 4) (lcons (getV 1) (lcons (getV 6) (lcons (getV 7) lnil))))) (lcons (asT (lcons (d1 negD (fun _=>some (.int 1))) (lcons (getV 5) (lcons (getV 6) (lcons (getV 7) lnil))))) (lcons (asT (lcons (getV 4) (lcons (getV 4) (lcons (getV 6) (lcons (getV 7) lnil))))) (lcons (asT (lcons (getV 4) (lcons (getV 5) (lcons (d1 negD (fun _=>some (.int 1))) (lcons (getV 7) lnil))))) lnil)))))))
    (dSeq (dSet 8 (d2 addA (getR 8) (asO (asL (lcons (asT (lcons (getV 4) (lcons (getV 5) (lcons (d2 powD (fun _=>some (.int 10)) (fun _=>some (.int 30))) (lcons (getV 7) lnil))))) (lcons (asT (lcons (d2 addA (getR 1) (getR 2)) (lcons (getV 5) (lcons (getV 6) (lcons (getV 7) lnil))))) (lcons (asT (lcons (getV 4) (lcons (d2 subD (d1 negD (fun _=>some (.int 1))) (getR 2)) (lcons (getV 6) (lcons (getV 7) lnil))))) lnil)))))))
    (dSeq (dSet 8 (d2 addA (getR 8) (asO (asL (lcons (asT (lcons (getV 4) (lcons (getV 5) (lcons (d2 subD (d1 negD (fun _=>some (.int 1))) (getR 2)) (lcons (getV 7) lnil))))) (lcons (asT (lcons (getV 4) (lcons (getV 5) (lcons (d2 addA (d2 powD (fun _=>some (.int 10)) (fun _=>some (.int 30))) (getR 2)) (lcons (getV 7) lnil))))) (lcons (asT (lcons (getV 5) (lcons (getV 5) (lcons (getV 6) (lcons (getV 7) lnil))))) lnil)))))))
    (dRet (d2 ixD (getR 8) (d2 modD (getR 3) (fun _=>some (.int 10)))))))))
noncomputable def m_q7 (C:Addr):List DV→Option DV:=mOf 9 4 (g_q7 C)
theorem ok_q7 {P:Program} {w:World} {K:PySem.W.Frag} {mg:Str→Option Value} {base:Heap} {t:Adr} (T:Txt K mg t):FnOk P w K mg base CX0 1 t.f_q7 t.d_q7 ["_law_tie", "_law_many", "_law_far", "_law_how"] (spD K (m_q7 t.C)):=
  T.fn_q7.okD sc_q7 fun cdv A outer s H E hr=>(pds_cons (pd_setT (pdg_tup (is:=[4,5,6,7]) rfl (pgs_cons (pg_name (i:=4) sc_q7.nd rfl (by first | exact Or.inl rfl | exact Or.inr rfl)) (pgs_cons (pg_name (i:=5) sc_q7.nd rfl (by first | exact Or.inl rfl | exact Or.inr rfl)) (pgs_cons (pg_name (i:=6) sc_q7.nd rfl (by first | exact Or.inl rfl | exact Or.inr rfl)) (pgs_cons (pg_name (i:=7) sc_q7.nd rfl (by first | exact Or.inl rfl | exact Or.inr rfl)) pgs_nil))))) (pde_of 0 (pv 0))) (pds_cons (pd_set (i:=8) sc_q7.nd rfl (by first | exact Or.inl rfl | exact Or.inr rfl) (PDO.v (pdo_lst (pdl_cons (pd_tup (pdl_cons (pde_of 4 (pv 4)) (pdl_cons (pde_of 1 (pv 1)) (pdl_cons (pde_of 6 (pv 6)) (pdl_cons (pde_of 7 (pv 7)) pdl_nil))))) (pdl_cons (pd_tup (pdl_cons (pd_neg pd_int) (pdl_cons (pde_of 5 (pv 5)) (pdl_cons (pde_of 6 (pv 6)) (pdl_cons (pde_of 7 (pv 7)) pdl_nil))))) (pdl_cons (pd_tup (pdl_cons (pde_of 4 (pv 4)) (pdl_cons (pde_of 4 (pv 4)) (pdl_cons (pde_of 6 (pv 6)) (pdl_cons (pde_of 7 (pv 7)) pdl_nil))))) (pdl_cons (pd_tup (pdl_cons (pde_of 4 (pv 4)) (pdl_cons (pde_of 5 (pv 5)) (pdl_cons (pd_neg pd_int) (pdl_cons (pde_of 7 (pv 7)) pdl_nil))))) pdl_nil))))))) (pds_cons (pd_set (i:=8) sc_q7.nd rfl (by first | exact Or.inl rfl | exact Or.inr rfl) (pd_addA (pdr_of 8 (pv 8)) (PDE.r (PDO.v (pdo_lst (pdl_cons (pd_tup (pdl_cons (pde_of 4 (pv 4)) (pdl_cons (pde_of 5 (pv 5)) (pdl_cons (pd_pow (PDE.r pd_int) (PDE.r pd_int)) (pdl_cons (pde_of 7 (pv 7)) pdl_nil))))) (pdl_cons (pd_tup (pdl_cons (pd_addA (pdr_of 1 (pv 1)) (pdr_of 2 (pv 2))) (pdl_cons (pde_of 5 (pv 5)) (pdl_cons (pde_of 6 (pv 6)) (pdl_cons (pde_of 7 (pv 7)) pdl_nil))))) (pdl_cons (pd_tup (pdl_cons (pde_of 4 (pv 4)) (pdl_cons (pd_sub (PDE.r (pd_neg pd_int)) (pdr_of 2 (pv 2))) (pdl_cons (pde_of 6 (pv 6)) (pdl_cons (pde_of 7 (pv 7)) pdl_nil))))) pdl_nil)))))))) (pds_cons (pd_set (i:=8) sc_q7.nd rfl (by first | exact Or.inl rfl | exact Or.inr rfl) (pd_addA (pdr_of 8 (pv 8)) (PDE.r (PDO.v (pdo_lst (pdl_cons (pd_tup (pdl_cons (pde_of 4 (pv 4)) (pdl_cons (pde_of 5 (pv 5)) (pdl_cons (pd_sub (PDE.r (pd_neg pd_int)) (pdr_of 2 (pv 2))) (pdl_cons (pde_of 7 (pv 7)) pdl_nil))))) (pdl_cons (pd_tup (pdl_cons (pde_of 4 (pv 4)) (pdl_cons (pde_of 5 (pv 5)) (pdl_cons (pd_addA (PDE.r (pd_pow (PDE.r pd_int) (PDE.r pd_int))) (pdr_of 2 (pv 2))) (pdl_cons (pde_of 7 (pv 7)) pdl_nil))))) (pdl_cons (pd_tup (pdl_cons (pde_of 5 (pv 5)) (pdl_cons (pde_of 5 (pv 5)) (pdl_cons (pde_of 6 (pv 6)) (pdl_cons (pde_of 7 (pv 7)) pdl_nil))))) pdl_nil)))))))) (pds_one (pd_ret (pd_ix (pdr_of 8 (pv 8)) (PDE.r (pd_mod (pdr_of 3 (pv 3)) (PDE.r pd_int))))))))))
noncomputable abbrev N_q9:List Str:=["_law_cells_here", "_law_seed", "_law_many", "_law_kinds", "_law_ties_here", "_law_draw", "_law_bad", "_law_at"]
theorem sc_q9:FnScope N_q9 ["_law_cells_here"] (defScope s_q9):=⟨rfl,rfl,rfl,by decide +kernel,rfl,by decide +kernel,by decide +kernel⟩
noncomputable def g_q9 (C:Addr):DF→Option RES:=
    (dSeq (dSet 1 (callV (m_q12 C) (aV (d2 ixD (getR 0) (fun _=>some (.int 0))) (aV (fun _=>some (.int 1)) (fun _=>some [])))))
    (dSeq (dSet 2 (d2 addA (fun _=>some (.int 1)) (d2 modD (getR 1) (fun _=>some (.int 7)))))
    (dSeq (dIf (asB (d2 eqD (d2 modD (d2 fdivD (getR 1) (fun _=>some (.int 7))) (fun _=>some (.int 9))) (fun _=>some (.int 0)))) (dSet 2 (d2 ixD (asO (asL (lcons (fun _=>some (.int 0)) (lcons (fun _=>some (.int 8)) (lcons (fun _=>some (.int 9)) lnil))))) (d2 modD (d2 fdivD (getR 1) (fun _=>some (.int 63))) (fun _=>some (.int 3))))) dNx)
    (dSeq (dSetO 3 (asL (dComp 1 [1,0] (rng1 (getR 2)) (setV 0) dYes (callV (m_q18 C) (aB 1 (aV (d2 modD (callV (m_q12 C) (aV (d2 ixD (getR 2) (d2 modD (getR 0) (fun _=>some (.int 12)))) (aV (d2 addA (fun _=>some (.int 20)) (getR 0)) (fun _=>some [])))) (fun _=>some (.int 3))) (fun _=>some [])))))))
    (dSeq (dSetO 4 (callO (m_q15 C) (aB 0 (aB 1 (aV (d2 maxD (fun _=>some (.int 2)) (getN 2)) (fun _=>some []))))))
    (dSeq (dSet 5 (callV (m_q12 C) (aV (d2 ixD (getR 0) (fun _=>some (.int 1))) (aV (fun _=>some (.int 6)) (fun _=>some [])))))
    (dSeq (dIf (andT (asB (d2 gtI (getR 2) (fun _=>some (.int 0)))) (asB (d2 eqD (d2 modD (getR 5) (fun _=>some (.int 4))) (fun _=>some (.int 0))))) (dSeq (dSet 6 (asO (asL (lcons (fun _=>some (.str "")) (lcons (fun _=>some (.str "abcd")) (lcons (fun _=>some (.str "A")) (lcons (fun _=>some (.str "a1")) (lcons (fun _=>some (.str "a b")) (lcons (fun _=>some (.str "-")) (lcons (fun _=>some (.str "zzzz")) (lcons (fun _=>some (.str "aB")) (lcons (fun _=>some (.str "{a")) (lcons (fun _=>some (.str "~")) lnil)))))))))))))
    (dSetIx 3 (d2 modD (d2 fdivD (getR 5) (fun _=>some (.int 4))) (getR 2)) (d2 ixD (getR 6) (d2 modD (d2 fdivD (getR 5) (fun _=>some (.int 40))) (fun _=>some (.int 10)))))) dNx)
    (dSeq (dSet 5 (callV (m_q12 C) (aV (d2 ixD (getR 0) (fun _=>some (.int 2))) (aV (fun _=>some (.int 7)) (fun _=>some [])))))
    (dSeq (dIf (andT (asB (d2 gtI (d1 lenD (getN 4)) (fun _=>some (.int 0)))) (asB (d2 eqD (d2 modD (getR 5) (fun _=>some (.int 4))) (fun _=>some (.int 0))))) (dSeq (dSet 7 (d2 modD (d2 fdivD (getR 5) (fun _=>some (.int 4))) (d1 lenD (getN 4))))
    (dSetIx 4 (getV 7) (callV (m_q7 C) (aV (d2 ixD (getR 4) (getR 7)) (aV (d2 maxD (fun _=>some (.int 2)) (getN 2)) (aV (d2 modD (d2 ixD (getR 0) (fun _=>some (.int 3))) (d2 powD (fun _=>some (.int 10)) (fun _=>some (.int 30)))) (aV (d2 fdivD (getR 5) (fun _=>some (.int 60))) (fun _=>some [])))))))) dNx)
    (dFrz 4 (dFrz 3 (dRet (asT (lcons (getV 3) (lcons (getV 4) lnil)))))))))))))))
noncomputable def m_q9 (C:Addr):List DV→Option DV:=mOf 8 1 (g_q9 C)
theorem ok_q9 {P:Program} {w:World} {K:PySem.W.Frag} {mg:Str→Option Value} {base:Heap} {t:Adr} (T:Txt K mg t):FnOk P w K mg base CX0 4 t.f_q9 t.d_q9 ["_law_cells_here"] (spD K (m_q9 t.C)):=
  T.fn_q9.okD sc_q9 fun cdv A outer s H E hr=>(pds_cons (pd_set (i:=1) sc_q9.nd rfl (by first | exact Or.inl rfl | exact Or.inr rfl) (pd_call (ok_q12 T) (hr.mono (by decide)) rfl T.g_q12 T.fn_q12.kp T.bd_q12 (pdv_v (pd_ix (pdr_of 0 (pv 0)) (PDE.r pd_int)) (pdv_v pd_int pdv_nil)))) (pds_cons (pd_set (i:=2) sc_q9.nd rfl (by first | exact Or.inl rfl | exact Or.inr rfl) (pd_addA (PDE.r pd_int) (PDE.r (pd_mod (pdr_of 1 (pv 1)) (PDE.r pd_int))))) (pds_cons (pd_if (pt_eq hr.h64 (PDE.n (pd_mod (PDE.r (pd_fdiv (pdr_of 1 (pv 1)) (PDE.r pd_int))) (PDE.r pd_int))) (PDE.n pd_int)) (pds_one (pd_set (i:=2) sc_q9.nd rfl (by first | exact Or.inl rfl | exact Or.inr rfl) (pd_ix (PDE.r (PDO.v (pdo_lst (pdl_cons pd_int (pdl_cons pd_int (pdl_cons pd_int pdl_nil)))))) (PDE.r (pd_mod (PDE.r (pd_fdiv (pdr_of 1 (pv 1)) (PDE.r pd_int))) (PDE.r pd_int)))))) pds_nil) (pds_cons (pd_setCompO (i:=3) (N:=["_law_k", "_law_seed", "_law_cells_here"]) (own:=1) (ix:=[1,0]) (is:=[0]) sc_q9.nd rfl (by first | exact Or.inl rfl | exact Or.inr rfl) rfl (bs_mk (defScope s_q9) rfl (by decide +kernel)) (cp_mk N_q9 rfl (by decide +kernel)) (his_mk (by decide)) (pdi_range1 rfl T.b_range (pdr_of 2 (pv 2))) (fun _ _ _ _=>(pdg_name (i:=0) (show (["_law_k", "_law_seed", "_law_cells_here"]:List Str).Nodup from by decide +kernel) rfl (by first | exact Or.inl rfl | exact Or.inr rfl))) (fun _ _ _ _=>pifs0) (fun _ _ _ _=>(pd_call (ok_q18 T) (hr.mono (by decide)) rfl T.g_q18 T.fn_q18.kp T.bd_q18 (pdv_b 1 (pv 1) (pdv_v (pd_mod (PDE.r (pd_call (ok_q12 T) (hr.mono (by decide)) rfl T.g_q12 T.fn_q12.kp T.bd_q12 (pdv_v (pd_ix (pdr_of 2 (pv 2)) (PDE.r (pd_mod (pdr_of 0 (pv 0)) (PDE.r pd_int)))) (pdv_v (pd_addA (PDE.r pd_int) (pdr_of 0 (pv 0))) pdv_nil)))) (PDE.r pd_int)) pdv_nil)))) (by decide +kernel)) (pds_cons (pd_setO (i:=4) sc_q9.nd rfl (by first | exact Or.inl rfl | exact Or.inr rfl) (pdo_call (ok_q15 T) (hr.mono (by decide)) rfl T.g_q15 T.fn_q15.kp T.bd_q15 (pdv_b 0 (pv 0) (pdv_b 1 (pv 1) (pdv_v (pd_max2 rfl rfl T.b_max (PDE.n pd_int) (pdn_of 2 (pv 2))) pdv_nil))))) (pds_cons (pd_set (i:=5) sc_q9.nd rfl (by first | exact Or.inl rfl | exact Or.inr rfl) (pd_call (ok_q12 T) (hr.mono (by decide)) rfl T.g_q12 T.fn_q12.kp T.bd_q12 (pdv_v (pd_ix (pdr_of 0 (pv 0)) (PDE.r pd_int)) (pdv_v pd_int pdv_nil)))) (pds_cons (pd_if (PDW.t (pw_andD (pt_gt (pdr_of 2 (pv 2)) (PDE.r pd_int)) (pw_and1D (pt_eq hr.h64 (PDE.n (pd_mod (pdr_of 5 (pv 5)) (PDE.r pd_int))) (PDE.n pd_int))))) (pds_cons (pd_set (i:=6) sc_q9.nd rfl (by first | exact Or.inl rfl | exact Or.inr rfl) (PDO.v (pdo_lst (pdl_cons pd_str (pdl_cons pd_str (pdl_cons pd_str (pdl_cons pd_str (pdl_cons pd_str (pdl_cons pd_str (pdl_cons pd_str (pdl_cons pd_str (pdl_cons pd_str (pdl_cons pd_str pdl_nil))))))))))))) (pds_one (pd_setIx 3 (pv 3) (pd_mod (PDE.r (pd_fdiv (pdr_of 5 (pv 5)) (PDE.r pd_int))) (pdr_of 2 (pv 2))) (pd_ix (pdr_of 6 (pv 6)) (PDE.r (pd_mod (PDE.r (pd_fdiv (pdr_of 5 (pv 5)) (PDE.r pd_int))) (PDE.r pd_int))))))) pds_nil) (pds_cons (pd_set (i:=5) sc_q9.nd rfl (by first | exact Or.inl rfl | exact Or.inr rfl) (pd_call (ok_q12 T) (hr.mono (by decide)) rfl T.g_q12 T.fn_q12.kp T.bd_q12 (pdv_v (pd_ix (pdr_of 0 (pv 0)) (PDE.r pd_int)) (pdv_v pd_int pdv_nil)))) (pds_cons (pd_if (PDW.t (pw_andD (pt_gt (PDE.r (pn_len rfl T.b_len (pdn_of 4 (pv 4)))) (PDE.r pd_int)) (pw_and1D (pt_eq hr.h64 (PDE.n (pd_mod (pdr_of 5 (pv 5)) (PDE.r pd_int))) (PDE.n pd_int))))) (pds_cons (pd_set (i:=7) sc_q9.nd rfl (by first | exact Or.inl rfl | exact Or.inr rfl) (pd_mod (PDE.r (pd_fdiv (pdr_of 5 (pv 5)) (PDE.r pd_int))) (PDE.r (pn_len rfl T.b_len (pdn_of 4 (pv 4)))))) (pds_one (pd_setIx 4 (pv 4) (pde_of 7 (pv 7)) (pd_call (ok_q7 T) (hr.mono (by decide)) rfl T.g_q7 T.fn_q7.kp T.bd_q7 (pdv_v (pd_ix (pdr_of 4 (pv 4)) (pdr_of 7 (pv 7))) (pdv_v (pd_max2 rfl rfl T.b_max (PDE.n pd_int) (pdn_of 2 (pv 2))) (pdv_v (pd_mod (PDE.r (pd_ix (pdr_of 0 (pv 0)) (PDE.r pd_int))) (PDE.r (pd_pow (PDE.r pd_int) (PDE.r pd_int)))) (pdv_v (pd_fdiv (pdr_of 5 (pv 5)) (PDE.r pd_int)) pdv_nil)))))))) pds_nil) (pds_one (pd1_frz 4 (pd1_frz 3 (pd_ret (pd_tup (pdl_cons (pde_of 3 (pv 3)) (pdl_cons (pde_of 4 (pv 4)) pdl_nil))))))))))))))))
noncomputable abbrev N_q8:List Str:=["_law_script", "_law_at", "_law_many"]
theorem sc_q8:FnScope N_q8 ["_law_script", "_law_at", "_law_many"] (defScope s_q8):=⟨rfl,rfl,rfl,by decide +kernel,rfl,by decide +kernel,by decide +kernel⟩
noncomputable def g_q8 (C:Addr):DF→Option RES:=
    (dRetO (asL (slL (d2 addA (asO (asL (slL (getR 0) (bI (getV 1)) (bI (d2 addA (getR 1) (getR 2)))))) (asO (asL (lcons (d2 addA (getR 1) (fun _=>some (.int 1))) (lcons (fun _=>some (.int 5)) (lcons (fun _=>some (.int 2)) (lcons (fun _=>some (.int 9)) (lcons (fun _=>some (.int 4)) (lcons (fun _=>some (.int 7)) (lcons (fun _=>some (.int 1)) (lcons (fun _=>some (.int 8)) (lcons (fun _=>some (.int 3)) (lcons (fun _=>some (.int 6)) (lcons (fun _=>some (.int 0)) (lcons (fun _=>some (.int 11)) (lcons (fun _=>some (.int 13)) (lcons (fun _=>some (.int 12)) (lcons (fun _=>some (.int 10)) (lcons (fun _=>some (.int 14)) lnil))))))))))))))))))) bNo (bI (getV 2)))))
noncomputable def m_q8 (C:Addr):List DV→Option DV:=mOf 3 3 (g_q8 C)
theorem ok_q8 {P:Program} {w:World} {K:PySem.W.Frag} {mg:Str→Option Value} {base:Heap} {t:Adr} (T:Txt K mg t):FnOk P w K mg base CX0 1 t.f_q8 t.d_q8 ["_law_script", "_law_at", "_law_many"] (spD K (m_q8 t.C)):=
  T.fn_q8.okD sc_q8 fun cdv A outer s H E hr=>(pds_one (pd_retO (pdo_slice (PDE.r (pd_addA (PDE.r (PDO.v (pdo_slice (pdr_of 0 (pv 0)) (pdb_i (pde_of 1 (pv 1))) (pdb_i (pd_addA (pdr_of 1 (pv 1)) (pdr_of 2 (pv 2))))))) (PDE.r (PDO.v (pdo_lst (pdl_cons (pd_addA (pdr_of 1 (pv 1)) (PDE.r pd_int)) (pdl_cons pd_int (pdl_cons pd_int (pdl_cons pd_int (pdl_cons pd_int (pdl_cons pd_int (pdl_cons pd_int (pdl_cons pd_int (pdl_cons pd_int (pdl_cons pd_int (pdl_cons pd_int (pdl_cons pd_int (pdl_cons pd_int (pdl_cons pd_int (pdl_cons pd_int (pdl_cons pd_int pdl_nil))))))))))))))))))))) pdb_no (pdb_i (pde_of 2 (pv 2))))))
noncomputable abbrev N_q2:List Str:=["kind", "letters_fit"]
theorem sc_q2:FnScope N_q2 ["kind"] (defScope s_q2):=⟨rfl,rfl,rfl,by decide +kernel,rfl,by decide +kernel,by decide +kernel⟩
noncomputable def g_q2 (C:Addr):DF→Option RES:=
    (dSeq (dSet 1 (d1 allD (asO (asL (dComp 1 [] (strOf (getV 0)) (setV 0) dYes (chD leA leA (fun _=>some (.str "a")) (getN 0) (fun _=>some (.str "z"))))))))
    (dRet (andV (getV 1) (chD leA leA (fun _=>some (.int 1)) (d1 lenD (getN 0)) (fun _=>some (.int 3))))))
noncomputable def m_q2 (C:Addr):List DV→Option DV:=mOf 2 1 (g_q2 C)
theorem ok_q2 {P:Program} {w:World} {K:PySem.W.Frag} {mg:Str→Option Value} {base:Heap} {t:Adr} (T:Txt K mg t):FnOk P w K mg base CX0 1 t.f_q2 t.d_q2 ["kind"] (spD K (m_q2 t.C)):=
  T.fn_q2.okD sc_q2 fun cdv A outer s H E hr=>(pds_cons (pd_set (i:=1) sc_q2.nd rfl (by first | exact Or.inl rfl | exact Or.inr rfl) (pd_all rfl rfl T.b_all (PDE.n (PDO.v (pdo_comp (N:=["letter"]) (own:=1) (ix:=[]) (is:=[0]) rfl (bs_mk (defScope s_q2) rfl (by decide +kernel)) (cp_mk N_q2 rfl (by decide +kernel)) (his_mk (by decide)) (pdi_str (pde_of 0 (pv 0))) (fun _ _ _ _=>(pdg_name (i:=0) (show (["letter"]:List Str).Nodup from by decide +kernel) rfl (by first | exact Or.inl rfl | exact Or.inr rfl))) (fun _ _ _ _=>pifs0) (fun _ _ _ _=>(pd_chLL (PDE.n pd_str) (pdn_of 0 (pv 0)) (PDE.n pd_str))) (by decide +kernel)))))) (pds_one (pd_ret (pd_and (pde_of 1 (pv 1)) (pd_one (pd_chLL (PDE.n pd_int) (PDE.n (pn_len rfl T.b_len (pdn_of 0 (pv 0)))) (PDE.n (pd_gint rfl T.c_MOST_LETTERS))))))))
noncomputable abbrev N_q4:List Str:=["kind"]
theorem sc_q4:FnScope N_q4 ["kind"] (defScope s_q4):=⟨rfl,rfl,rfl,by decide +kernel,rfl,by decide +kernel,by decide +kernel⟩
noncomputable def g_q4 (C:Addr):DF→Option RES:=
    (dRet (chD leA ltI (fun _=>some (.int 0)) (getN 0) (d2 powD (fun _=>some (.int 10)) (fun _=>some (.int 30)))))
noncomputable def m_q4 (C:Addr):List DV→Option DV:=mOf 1 1 (g_q4 C)
theorem ok_q4 {P:Program} {w:World} {K:PySem.W.Frag} {mg:Str→Option Value} {base:Heap} {t:Adr} (T:Txt K mg t):FnOk P w K mg base CX0 1 t.f_q4 t.d_q4 ["kind"] (spD K (m_q4 t.C)):=
  T.fn_q4.okD sc_q4 fun cdv A outer s H E hr=>(pds_one (pd_ret (pd_chLl (PDE.n pd_int) (pdn_of 0 (pv 0)) (PDE.n (pd_pow (PDE.r pd_int) (PDE.r pd_int))))))
noncomputable abbrev N_q3:List Str:=["tie", "size", "places_fit"]
theorem sc_q3:FnScope N_q3 ["tie", "size"] (defScope s_q3):=⟨rfl,rfl,rfl,by decide +kernel,rfl,by decide +kernel,by decide +kernel⟩
noncomputable def g_q3 (C:Addr):DF→Option RES:=
    (dSeq (dSet 2 (andV (chD leA ltI (fun _=>some (.int 0)) (d2 ixD (getR 0) (fun _=>some (.int 0))) (getN 1)) (chD leA ltI (fun _=>some (.int 0)) (d2 ixD (getR 0) (fun _=>some (.int 1))) (getN 1))))
    (dRet (andV (getV 2) (andV (d2 neD (d2 ixD (getR 0) (fun _=>some (.int 0))) (d2 ixD (getR 0) (fun _=>some (.int 1)))) (callV (m_q4 C) (aV (d2 ixD (getR 0) (fun _=>some (.int 2))) (fun _=>some [])))))))
noncomputable def m_q3 (C:Addr):List DV→Option DV:=mOf 3 2 (g_q3 C)
theorem ok_q3 {P:Program} {w:World} {K:PySem.W.Frag} {mg:Str→Option Value} {base:Heap} {t:Adr} (T:Txt K mg t):FnOk P w K mg base CX0 2 t.f_q3 t.d_q3 ["tie", "size"] (spD K (m_q3 t.C)):=
  T.fn_q3.okD sc_q3 fun cdv A outer s H E hr=>(pds_cons (pd_set (i:=2) sc_q3.nd rfl (by first | exact Or.inl rfl | exact Or.inr rfl) (pd_and (pd_chLl (PDE.n pd_int) (PDE.n (pd_ix (pdr_of 0 (pv 0)) (PDE.r pd_int))) (pdn_of 1 (pv 1))) (pd_one (pd_chLl (PDE.n pd_int) (PDE.n (pd_ix (pdr_of 0 (pv 0)) (PDE.r pd_int))) (pdn_of 1 (pv 1)))))) (pds_one (pd_ret (pd_and (pde_of 2 (pv 2)) (pd_and (pd_ne hr.h64 (PDE.n (pd_ix (pdr_of 0 (pv 0)) (PDE.r pd_int))) (PDE.n (pd_ix (pdr_of 0 (pv 0)) (PDE.r pd_int)))) (pd_one (pd_call (ok_q4 T) (hr.mono (by decide)) rfl T.g_q4 T.fn_q4.kp T.bd_q4 (pdv_v (pd_ix (pdr_of 0 (pv 0)) (PDE.r pd_int)) pdv_nil))))))))
noncomputable abbrev N_q22:List Str:=["kinds", "ties", "kind", "tie"]
theorem sc_q22:FnScope N_q22 ["kinds", "ties"] (defScope s_q22):=⟨rfl,rfl,rfl,by decide +kernel,rfl,by decide +kernel,by decide +kernel⟩
noncomputable def g_q22 (C:Addr):DF→Option RES:=
    (dSeq (dIf (notT (asB (chD leA leA (fun _=>some (.int 1)) (d1 lenD (getN 0)) (fun _=>some (.int 7))))) dNone dNx)
    (dSeq (dIf (asB (d2 gtI (d1 lenD (getN 1)) (fun _=>some (.int 12)))) dNone dNx)
    (dSeq (dFor (borOf 0) (setV 2) (dIf (notT (asB (callV (m_q2 C) (aV (getV 2) (fun _=>some []))))) dNone dNx))
    (dFor (borOf 1) (setV 3) (dIf (notT (asB (callV (m_q3 C) (aB 3 (aV (d1 lenD (getN 0)) (fun _=>some [])))))) dNone dNx)))))
noncomputable def m_q22 (C:Addr):List DV→Option DV:=mOf 4 2 (g_q22 C)
theorem ok_q22 {P:Program} {w:World} {K:PySem.W.Frag} {mg:Str→Option Value} {base:Heap} {t:Adr} (T:Txt K mg t):FnOk P w K mg base CX0 3 t.f_q22 t.d_q22 ["kinds", "ties"] (spD K (m_q22 t.C)):=
  T.fn_q22.okD sc_q22 fun cdv A outer s H E hr=>(pds_cons (pd_if (pt_notD (pt_chLL (PDE.n pd_int) (PDE.n (pn_len rfl T.b_len (pdn_of 0 (pv 0)))) (PDE.n (pd_gint rfl T.c_MOST_PLACES)))) (pds_one pd_never) pds_nil) (pds_cons (pd_if (pt_gt (PDE.r (pn_len rfl T.b_len (pdn_of 1 (pv 1)))) (PDE.r (pd_gint rfl T.c_MOST_TIES))) (pds_one pd_never) pds_nil) (pds_cons (pd_for PassesOwn.never rfl (pdi_bor 0 (pv 0)) (pdg_name (i:=2) sc_q22.nd rfl (by first | exact Or.inl rfl | exact Or.inr rfl)) (pds_one (pd_if (pt_notD (pt_valD (pd_call (ok_q2 T) (hr.mono (by decide)) rfl T.g_q2 T.fn_q2.kp T.bd_q2 (pdv_v (pde_of 2 (pv 2)) pdv_nil)))) (pds_one pd_never) pds_nil))) (pds_one (pd_for PassesOwn.never rfl (pdi_bor 1 (pv 1)) (pdg_name (i:=3) sc_q22.nd rfl (by first | exact Or.inl rfl | exact Or.inr rfl)) (pds_one (pd_if (pt_notD (pt_valD (pd_call (ok_q3 T) (hr.mono (by decide)) rfl T.g_q3 T.fn_q3.kp T.bd_q3 (pdv_b 3 (pv 3) (pdv_v (pn_len rfl T.b_len (pdn_of 0 (pv 0))) pdv_nil))))) (pds_one pd_never) pds_nil)))))))
noncomputable def rx_refuse_wrong (C:Addr):List DV→Option Nat:=rzX 4 2 (xSeq (xIf (notT (asB (chD leA leA (fun _=>some (.int 1)) (d1 lenD (getN 0)) (fun _=>some (.int 7))))) (xEx 0) xNx)
    (xSeq (xIf (asB (d2 gtI (d1 lenD (getN 1)) (fun _=>some (.int 12)))) (xEx 0) xNx)
    (xSeq (xFor (borOf 0) (setV 2) (xIf (notT (asB (callV (m_q2 C) (aV (getV 2) (fun _=>some []))))) (xExF 2 " is no kind of a place" 1) xNx))
    (xFor (borOf 1) (setV 3) (xIf (notT (asB (callV (m_q3 C) (aB 3 (aV (d1 lenD (getN 0)) (fun _=>some [])))))) (xEx 2) xNx)))))
theorem okx_refuse_wrong {P:Program} {w:World} {K:PySem.W.Frag} {mg:Str→Option Value} {base:Heap} {t:Adr} (T:Txt K mg t):FnOk P w K mg base (CXc P w t.cl) 3 t.f_q22 t.d_q22 ["kinds", "ties"] (spXc K t.cl (rx_refuse_wrong t.C)):=
  T.fn_q22.thrX sc_q22 (fun cdv A outer s H E hr=>(pxs_cons (px_if (pt_notD (pt_chLL (PDE.n pd_int) (PDE.n (pn_len rfl T.b_len (pdn_of 0 (pv 0)))) (PDE.n (pd_gint rfl T.c_MOST_PLACES)))) (pxs_one (px_raise (k:=0) rfl (raisesC 0) rfl T.mx_TooGreat (T.xi 0))) pxs_nil) (pxs_cons (px_if (pt_gt (PDE.r (pn_len rfl T.b_len (pdn_of 1 (pv 1)))) (PDE.r (pd_gint rfl T.c_MOST_TIES))) (pxs_one (px_raise (k:=0) rfl (raisesC 0) rfl T.mx_TooGreat (T.xi 0))) pxs_nil) (pxs_cons (px_for ownC rfl (pdi_bor 0 (pv 0)) (pdg_name (i:=2) sc_q22.nd rfl (by first | exact Or.inl rfl | exact Or.inr rfl)) (pxs_one (px_if (pt_notD (pt_valD (pd_call (ok_q2 T) (hr.mono (by decide)) rfl T.g_q2 T.fn_q2.kp T.bd_q2 (pdv_v (pde_of 2 (pv 2)) pdv_nil)))) (pxs_one (px_raiseF (i:=2) (k:=1) rfl (raisesC 1) rfl T.mx_BadPlace (T.xi 1) (pv 2))) pxs_nil))) (pxs_one (px_for ownC rfl (pdi_bor 1 (pv 1)) (pdg_name (i:=3) sc_q22.nd rfl (by first | exact Or.inl rfl | exact Or.inr rfl)) (pxs_one (px_if (pt_notD (pt_valD (pd_call (ok_q3 T) (hr.mono (by decide)) rfl T.g_q3 T.fn_q3.kp T.bd_q3 (pdv_b 3 (pv 3) (pdv_v (pn_len rfl T.b_len (pdn_of 0 (pv 0))) pdv_nil))))) (pxs_one (px_raise (k:=2) rfl (raisesC 2) rfl T.mx_BadTie (T.xi 2))) pxs_nil))))))))
noncomputable abbrev N_q20:List Str:=["tie"]
theorem sc_q20:FnScope N_q20 ["tie"] (defScope s_q20):=⟨rfl,rfl,rfl,by decide +kernel,rfl,by decide +kernel,by decide +kernel⟩
noncomputable def g_q20 (C:Addr):DF→Option RES:=
    (dSeq (dIf (orT (asB (d2 ixD (getR 0) (fun _=>some (.int 3)))) (asB (d2 ltd (d2 ixD (getR 0) (fun _=>some (.int 0))) (d2 ixD (getR 0) (fun _=>some (.int 1)))))) (dRet (getV 0)) dNx)
    (dRet (asT (lcons (d2 ixD (getR 0) (fun _=>some (.int 1))) (lcons (d2 ixD (getR 0) (fun _=>some (.int 0))) (lcons (d2 ixD (getR 0) (fun _=>some (.int 2))) (lcons (d2 ixD (getR 0) (fun _=>some (.int 3))) lnil)))))))
noncomputable def m_q20 (C:Addr):List DV→Option DV:=mOf 1 1 (g_q20 C)
theorem ok_q20 {P:Program} {w:World} {K:PySem.W.Frag} {mg:Str→Option Value} {base:Heap} {t:Adr} (T:Txt K mg t):FnOk P w K mg base CX0 1 t.f_q20 t.d_q20 ["tie"] (spD K (m_q20 t.C)):=
  T.fn_q20.okD sc_q20 fun cdv A outer s H E hr=>(pds_cons (pd_if (PDW.t (pw_orD (pt_valD (pd_ix (pdr_of 0 (pv 0)) (PDE.r pd_int))) (pw_or1D (pt_ltd hr.h64 (PDE.n (pd_ix (pdr_of 0 (pv 0)) (PDE.r pd_int))) (PDE.n (pd_ix (pdr_of 0 (pv 0)) (PDE.r pd_int))))))) (pds_one (pd_ret (pde_of 0 (pv 0)))) pds_nil) (pds_one (pd_ret (pd_tup (pdl_cons (pd_ix (pdr_of 0 (pv 0)) (PDE.r pd_int)) (pdl_cons (pd_ix (pdr_of 0 (pv 0)) (PDE.r pd_int)) (pdl_cons (pd_ix (pdr_of 0 (pv 0)) (PDE.r pd_int)) (pdl_cons (pd_ix (pdr_of 0 (pv 0)) (PDE.r pd_int)) pdl_nil))))))))
noncomputable abbrev N_q21:List Str:=["joins", "ends", "pair"]
theorem sc_q21:FnScope N_q21 ["joins", "ends", "pair"] (defScope s_q21):=⟨rfl,rfl,rfl,by decide +kernel,rfl,by decide +kernel,by decide +kernel⟩
noncomputable def g_q21 (C:Addr):DF→Option RES:=
    (dPutT 0 (getV 1) (d1 tupD (asO (asL (sortL (d2 addA (dctGet2 (getR 0) (getV 1) (asT lnil)) (asT (lcons (getV 2) lnil))))))))
noncomputable def mM_q21 (C:Addr):OD→List DV→Option (OD×D):=mMof 3 3 (g_q21 C)
theorem ok_q21 {P:Program} {w:World} {K:PySem.W.Frag} {mg:Str→Option Value} {base:Heap} {t:Adr} (T:Txt K mg t):FnOk P w K mg base CX0 1 t.f_q21 t.d_q21 ["joins", "ends", "pair"] (spM K (mM_q21 t.C)):=
  T.fn_q21.okM sc_q21 mMof_ok fun cdv A outer s H E hr=>(pds_one (pd_dput 0 hr.h64 (pv 0) (pde_of 1 (pv 1)) (pd_tuple rfl T.b_tuple (PDE.r (PDO.v (pdo_sorted hr.h64 rfl T.b_sorted (PDE.r (pd_addA (PDE.r (pd_dget2 hr.h64 (pdr_of 0 (pv 0)) (pde_of 1 (pv 1)) (pd_tup pdl_nil))) (PDE.r (pd_tup (pdl_cons (pde_of 2 (pv 2)) pdl_nil)))))))))))
noncomputable abbrev N_q5:List Str:=["ties", "joins", "one", "other", "kind", "oneway"]
theorem sc_q5:FnScope N_q5 ["ties"] (defScope s_q5):=⟨rfl,rfl,rfl,by decide +kernel,rfl,by decide +kernel,by decide +kernel⟩
noncomputable def g_q5 (C:Addr):DF→Option RES:=
    (dSeq (dSetO 1 (fun _=>some (.dT [])))
    (dSeq (dFor (borOf 0) (setT [2,3,4,5]) (dSeq (dMcall K0 1 (mM_q21 C) (aV (asT (lcons (getV 2) (lcons (getV 3) lnil))) (aV (asT (lcons (getV 4) (lcons (ifV (asB (getV 5)) (fun _=>some (.int 1)) (fun _=>some (.int 0))) lnil))) (fun _=>some []))))
    (dMcall K0 1 (mM_q21 C) (aV (asT (lcons (getV 3) (lcons (getV 2) lnil))) (aV (asT (lcons (getV 4) (lcons (ifV (asB (getV 5)) (fun _=>some (.int 2)) (fun _=>some (.int 0))) lnil))) (fun _=>some []))))))
    (dRetS 1)))
noncomputable def m_q5 (C:Addr):List DV→Option DV:=mOf 6 1 (g_q5 C)
theorem ok_q5 {P:Program} {w:World} {K:PySem.W.Frag} {mg:Str→Option Value} {base:Heap} {t:Adr} (T:Txt K mg t):FnOk P w K mg base CX0 2 t.f_q5 t.d_q5 ["ties"] (spD K (m_q5 t.C)):=
  T.fn_q5.okD sc_q5 fun cdv A outer s H E hr=>(pds_cons (pd_setO (i:=1) sc_q5.nd rfl (by first | exact Or.inl rfl | exact Or.inr rfl) pdo_dnewT) (pds_cons (pd_for PassesOwn.never rfl (pdi_bor 0 (pv 0)) (pdg_tup (is:=[2,3,4,5]) rfl (pgs_cons (pg_name (i:=2) sc_q5.nd rfl (by first | exact Or.inl rfl | exact Or.inr rfl)) (pgs_cons (pg_name (i:=3) sc_q5.nd rfl (by first | exact Or.inl rfl | exact Or.inr rfl)) (pgs_cons (pg_name (i:=4) sc_q5.nd rfl (by first | exact Or.inl rfl | exact Or.inr rfl)) (pgs_cons (pg_name (i:=5) sc_q5.nd rfl (by first | exact Or.inl rfl | exact Or.inr rfl)) pgs_nil))))) (pds_cons (pd_mcall 1 (ok_q21 T) (hr.mono (by decide)) rfl T.g_q21 T.fn_q21.kp T.bd_q21 (pv 1) (pdv_v (pd_tup (pdl_cons (pde_of 2 (pv 2)) (pdl_cons (pde_of 3 (pv 3)) pdl_nil))) (pdv_v (pd_tup (pdl_cons (pde_of 4 (pv 4)) (pdl_cons (pd_ifE (pt_valD (pde_of 5 (pv 5))) pd_int pd_int) pdl_nil))) pdv_nil))) (pds_one (pd_mcall 1 (ok_q21 T) (hr.mono (by decide)) rfl T.g_q21 T.fn_q21.kp T.bd_q21 (pv 1) (pdv_v (pd_tup (pdl_cons (pde_of 3 (pv 3)) (pdl_cons (pde_of 2 (pv 2)) pdl_nil))) (pdv_v (pd_tup (pdl_cons (pde_of 4 (pv 4)) (pdl_cons (pd_ifE (pt_valD (pde_of 5 (pv 5))) pd_int pd_int) pdl_nil))) pdv_nil)))))) (pds_one (pd_retS 1 (pv 1)))))
noncomputable abbrev N_q0:List Str:=["self", "kinds", "ties"]
theorem sc_q0:FnScope N_q0 ["self", "kinds", "ties"] (defScope s_q0):=⟨rfl,rfl,rfl,by decide +kernel,rfl,by decide +kernel,by decide +kernel⟩
noncomputable def g_q0 (C:Addr):DF→Option RES:=
    (dSeq (dDrop (callV (m_q22 C) (aB 1 (aB 2 (fun _=>some [])))))
    (dSeq (dSetF C 0 "kinds" (asO (asL (itemsL (getR 1)))))
    (dSeq (dSetF C 0 "ties" (asO (asL (sortL (asO (asL (dComp 1 [] (borOf 2) (setV 0) dYes (callV (m_q20 C) (aV (getV 0) (fun _=>some []))))))))))
    (dSetF C 0 "joins" (callV (m_q5 C) (aV (d1 (fldC C "ties") (getR 0)) (fun _=>some [])))))))
noncomputable def mM_q0 (C:Addr):OD→List DV→Option (OD×D):=mMof 3 3 (g_q0 C)
theorem ok_q0 {P:Program} {w:World} {K:PySem.W.Frag} {mg:Str→Option Value} {base:Heap} {t:Adr} (T:Txt K mg t):FnOk P w K mg base CX0 4 t.f_q0 t.d_q0 ["self", "kinds", "ties"] (spM K (mM_q0 t.C)):=
  T.fn_q0.okM sc_q0 mMof_ok fun cdv A outer s H E hr=>(pds_cons (pd_expr (pd_call (ok_q22 T) (hr.mono (by decide)) rfl T.g_q22 T.fn_q22.kp T.bd_q22 (pdv_b 1 (pv 1) (pdv_b 2 (pv 2) pdv_nil)))) (pds_cons (pd_setF 0 T.cl T.na_kinds (pv 0) (PDO.v (pdo_list rfl T.b_list (pdr_of 1 (pv 1))))) (pds_cons (pd_setF 0 T.cl T.na_ties (pv 0) (PDO.v (pdo_sorted hr.h64 rfl T.b_sorted (PDE.r (PDO.v (pdo_comp (N:=["tie"]) (own:=1) (ix:=[]) (is:=[0]) rfl (bs_mk (defScope s_q0) rfl (by decide +kernel)) (cp_mk N_q0 rfl (by decide +kernel)) (his_mk (by decide)) (pdi_bor 2 (pv 2)) (fun _ _ _ _=>(pdg_name (i:=0) (show (["tie"]:List Str).Nodup from by decide +kernel) rfl (by first | exact Or.inl rfl | exact Or.inr rfl))) (fun _ _ _ _=>pifs0) (fun _ _ _ _=>(pd_call (ok_q20 T) (hr.mono (by decide)) rfl T.g_q20 T.fn_q20.kp T.bd_q20 (pdv_v (pde_of 0 (pv 0)) pdv_nil))) (by decide +kernel))))))) (pds_one (pd_setF 0 T.cl T.na_joins (pv 0) (pd_call (ok_q5 T) (hr.mono (by decide)) rfl T.g_q5 T.fn_q5.kp T.bd_q5 (pdv_v (pd_fld T.cl T.na_ties (pdr_of 0 (pv 0))) pdv_nil)))))))
noncomputable def rx_Web__init (C:Addr):List DV→Option Nat:=rzX 3 3 (xSeq (xCall (aB 1 (aB 2 (fun _=>some []))) (rx_refuse_wrong C))
    (fun _=>none))
theorem okx_Web__init {P:Program} {w:World} {K:PySem.W.Frag} {mg:Str→Option Value} {base:Heap} {t:Adr} (T:Txt K mg t):FnOk P w K mg base (CXc P w t.cl) 4 t.f_q0 t.d_q0 ["self", "kinds", "ties"] (spXc K t.cl (rx_Web__init t.C)):=
  T.fn_q0.thrX sc_q0 (fun cdv A outer s H E hr=>(pxs_cons (px_call (okx_refuse_wrong T) (hr.mono (by decide)) rfl T.g_q22 T.fn_q22.kp T.bd_q22 (pdv_b 1 (pv 1) (pdv_b 2 (pv 2) pdv_nil))) pxs_never))
noncomputable abbrev N_q19:List Str:=["_law_kind_here", "_law_sign"]
theorem sc_q19:FnScope N_q19 ["_law_kind_here"] (defScope s_q19):=⟨rfl,rfl,rfl,by decide +kernel,rfl,by decide +kernel,by decide +kernel⟩
noncomputable def g_q19 (C:Addr):DF→Option RES:=
    (dSeq (dFor (strOf (getV 0)) (setV 1) (dIf (asB (d2 nisD (getN 1) (fun _=>some (.str "abcdefghijklmnopqrstuvwxyz")))) (dRet (fun _=>some (.bl false))) dNx))
    (dRet (chD leA leA (fun _=>some (.int 1)) (d1 lenD (getN 0)) (fun _=>some (.int 3)))))
noncomputable def m_q19 (C:Addr):List DV→Option DV:=mOf 2 1 (g_q19 C)
theorem ok_q19 {P:Program} {w:World} {K:PySem.W.Frag} {mg:Str→Option Value} {base:Heap} {t:Adr} (T:Txt K mg t):FnOk P w K mg base CX0 1 t.f_q19 t.d_q19 ["_law_kind_here"] (spD K (m_q19 t.C)):=
  T.fn_q19.okD sc_q19 fun cdv A outer s H E hr=>(pds_cons (pd_for PassesOwn.never rfl (pdi_str (pde_of 0 (pv 0))) (pdg_name (i:=1) sc_q19.nd rfl (by first | exact Or.inl rfl | exact Or.inr rfl)) (pds_one (pd_if (pt_nis (pdn_of 1 (pv 1)) (PDE.n pd_str)) (pds_one (pd_ret pd_bl)) pds_nil))) (pds_one (pd_ret (pd_chLL (PDE.n pd_int) (PDE.n (pn_len rfl T.b_len (pdn_of 0 (pv 0)))) (PDE.n pd_int)))))
noncomputable abbrev N_q10:List Str:=["_law_kinds", "_law_ties_here", "_law_many", "_law_kind_here", "_law_one", "_law_other", "_law_oneway"]
theorem sc_q10:FnScope N_q10 ["_law_kinds", "_law_ties_here"] (defScope s_q10):=⟨rfl,rfl,rfl,by decide +kernel,rfl,by decide +kernel,by decide +kernel⟩
noncomputable def g_q10 (C:Addr):DF→Option RES:=
    (dSeq (dSet 2 (d1 lenD (getN 0)))
    (dSeq (dIf (orT (asB (d2 ltd (getN 2) (fun _=>some (.int 1)))) (orT (asB (d2 gtI (getR 2) (fun _=>some (.int 7)))) (asB (d2 gtI (d1 lenD (getN 1)) (fun _=>some (.int 12)))))) (dRetO (asL (lcons (fun _=>some (.bl true)) (lcons (fun _=>some (.bl false)) (lcons (fun _=>some (.bl false)) lnil))))) dNx)
    (dSeq (dFor (borOf 0) (setV 3) (dIf (notT (asB (callV (m_q19 C) (aV (getV 3) (fun _=>some []))))) (dRetO (asL (lcons (fun _=>some (.bl false)) (lcons (fun _=>some (.bl true)) (lcons (fun _=>some (.bl false)) lnil))))) dNx))
    (dSeq (dFor (borOf 1) (setT [4,5,3,6]) (dIf (orT (asB (d2 eqD (getN 4) (getN 5))) (orT (notT (asB (chD leA ltI (fun _=>some (.int 0)) (getN 4) (getN 2)))) (orT (notT (asB (chD leA ltI (fun _=>some (.int 0)) (getN 5) (getN 2)))) (notT (asB (chD leA ltI (fun _=>some (.int 0)) (getN 3) (d2 powD (fun _=>some (.int 10)) (fun _=>some (.int 30))))))))) (dRetO (asL (lcons (fun _=>some (.bl false)) (lcons (fun _=>some (.bl false)) (lcons (fun _=>some (.bl true)) lnil))))) dNx))
    (dRetO (asL lnil))))))
noncomputable def m_q10 (C:Addr):List DV→Option DV:=mOf 7 2 (g_q10 C)
theorem ok_q10 {P:Program} {w:World} {K:PySem.W.Frag} {mg:Str→Option Value} {base:Heap} {t:Adr} (T:Txt K mg t):FnOk P w K mg base CX0 2 t.f_q10 t.d_q10 ["_law_kinds", "_law_ties_here"] (spD K (m_q10 t.C)):=
  T.fn_q10.okD sc_q10 fun cdv A outer s H E hr=>(pds_cons (pd_set (i:=2) sc_q10.nd rfl (by first | exact Or.inl rfl | exact Or.inr rfl) (pn_len rfl T.b_len (pdn_of 0 (pv 0)))) (pds_cons (pd_if (PDW.t (pw_orD (pt_ltd hr.h64 (pdn_of 2 (pv 2)) (PDE.n pd_int)) (pw_orD (pt_gt (pdr_of 2 (pv 2)) (PDE.r pd_int)) (pw_or1D (pt_gt (PDE.r (pn_len rfl T.b_len (pdn_of 1 (pv 1)))) (PDE.r pd_int)))))) (pds_one (pd_retO (pdo_lst (pdl_cons pd_bl (pdl_cons pd_bl (pdl_cons pd_bl pdl_nil)))))) pds_nil) (pds_cons (pd_for PassesOwn.never rfl (pdi_bor 0 (pv 0)) (pdg_name (i:=3) sc_q10.nd rfl (by first | exact Or.inl rfl | exact Or.inr rfl)) (pds_one (pd_if (pt_notD (pt_valD (pd_call (ok_q19 T) (hr.mono (by decide)) rfl T.g_q19 T.fn_q19.kp T.bd_q19 (pdv_v (pde_of 3 (pv 3)) pdv_nil)))) (pds_one (pd_retO (pdo_lst (pdl_cons pd_bl (pdl_cons pd_bl (pdl_cons pd_bl pdl_nil)))))) pds_nil))) (pds_cons (pd_for PassesOwn.never rfl (pdi_bor 1 (pv 1)) (pdg_tup (is:=[4,5,3,6]) rfl (pgs_cons (pg_name (i:=4) sc_q10.nd rfl (by first | exact Or.inl rfl | exact Or.inr rfl)) (pgs_cons (pg_name (i:=5) sc_q10.nd rfl (by first | exact Or.inl rfl | exact Or.inr rfl)) (pgs_cons (pg_name (i:=3) sc_q10.nd rfl (by first | exact Or.inl rfl | exact Or.inr rfl)) (pgs_cons (pg_name (i:=6) sc_q10.nd rfl (by first | exact Or.inl rfl | exact Or.inr rfl)) pgs_nil))))) (pds_one (pd_if (PDW.t (pw_orD (pt_eq hr.h64 (pdn_of 4 (pv 4)) (pdn_of 5 (pv 5))) (pw_orD (pt_notD (pt_chLl (PDE.n pd_int) (pdn_of 4 (pv 4)) (pdn_of 2 (pv 2)))) (pw_orD (pt_notD (pt_chLl (PDE.n pd_int) (pdn_of 5 (pv 5)) (pdn_of 2 (pv 2)))) (pw_or1D (pt_notD (pt_chLl (PDE.n pd_int) (pdn_of 3 (pv 3)) (PDE.n (pd_pow (PDE.r pd_int) (PDE.r pd_int)))))))))) (pds_one (pd_retO (pdo_lst (pdl_cons pd_bl (pdl_cons pd_bl (pdl_cons pd_bl pdl_nil)))))) pds_nil))) (pds_one (pd_retO (pdo_lst pdl_nil)))))))
noncomputable abbrev N_q13:List Str:=["_law_ties_here", "_law_made", "_law_one", "_law_other", "_law_kind_here", "_law_oneway"]
theorem sc_q13:FnScope N_q13 ["_law_ties_here"] (defScope s_q13):=⟨rfl,rfl,rfl,by decide +kernel,rfl,by decide +kernel,by decide +kernel⟩
noncomputable def g_q13 (C:Addr):DF→Option RES:=
    (dSeq (dSetO 1 (asL lnil))
    (dSeq (dFor (borOf 0) (setT [2,3,4,5]) (dIf (asB (getV 5)) (dApp 1 (asT (lcons (getV 2) (lcons (getV 3) (lcons (getV 4) (lcons (fun _=>some (.bl true)) lnil)))))) (dApp 1 (asT (lcons (d2 minD (getN 2) (getN 3)) (lcons (d2 maxD (getN 2) (getN 3)) (lcons (getV 4) (lcons (fun _=>some (.bl false)) lnil))))))))
    (dRetO (asL (sortL (getR 1))))))
noncomputable def m_q13 (C:Addr):List DV→Option DV:=mOf 6 1 (g_q13 C)
theorem ok_q13 {P:Program} {w:World} {K:PySem.W.Frag} {mg:Str→Option Value} {base:Heap} {t:Adr} (T:Txt K mg t):FnOk P w K mg base CX0 1 t.f_q13 t.d_q13 ["_law_ties_here"] (spD K (m_q13 t.C)):=
  T.fn_q13.okD sc_q13 fun cdv A outer s H E hr=>(pds_cons (pd_setO (i:=1) sc_q13.nd rfl (by first | exact Or.inl rfl | exact Or.inr rfl) (pdo_lst pdl_nil)) (pds_cons (pd_for PassesOwn.never rfl (pdi_bor 0 (pv 0)) (pdg_tup (is:=[2,3,4,5]) rfl (pgs_cons (pg_name (i:=2) sc_q13.nd rfl (by first | exact Or.inl rfl | exact Or.inr rfl)) (pgs_cons (pg_name (i:=3) sc_q13.nd rfl (by first | exact Or.inl rfl | exact Or.inr rfl)) (pgs_cons (pg_name (i:=4) sc_q13.nd rfl (by first | exact Or.inl rfl | exact Or.inr rfl)) (pgs_cons (pg_name (i:=5) sc_q13.nd rfl (by first | exact Or.inl rfl | exact Or.inr rfl)) pgs_nil))))) (pds_one (pd_if (pt_valD (pde_of 5 (pv 5))) (pds_one (pd_append 1 (pv 1) (pd_tup (pdl_cons (pde_of 2 (pv 2)) (pdl_cons (pde_of 3 (pv 3)) (pdl_cons (pde_of 4 (pv 4)) (pdl_cons pd_bl pdl_nil))))))) (pds_one (pd_append 1 (pv 1) (pd_tup (pdl_cons (pd_min2 rfl rfl T.b_min (pdn_of 2 (pv 2)) (pdn_of 3 (pv 3))) (pdl_cons (pd_max2 rfl rfl T.b_max (pdn_of 2 (pv 2)) (pdn_of 3 (pv 3))) (pdl_cons (pde_of 4 (pv 4)) (pdl_cons pd_bl pdl_nil)))))))))) (pds_one (pd_retO (pdo_sorted hr.h64 rfl T.b_sorted (pdr_of 1 (pv 1)))))))
noncomputable abbrev N_q17:List Str:=["_law_found"]
theorem sc_q17:FnScope N_q17 ["_law_found"] (defScope s_q17):=⟨rfl,rfl,rfl,by decide +kernel,rfl,by decide +kernel,by decide +kernel⟩
noncomputable def g_q17 (C:Addr):DF→Option RES:=
    (dRet (andV (d1 (isTD "int") (getN 0)) (notV (d1 (isTD "bool") (getN 0)))))
noncomputable def m_q17 (C:Addr):List DV→Option DV:=mOf 1 1 (g_q17 C)
theorem ok_q17 {P:Program} {w:World} {K:PySem.W.Frag} {mg:Str→Option Value} {base:Heap} {t:Adr} (T:Txt K mg t):FnOk P w K mg base CX0 1 t.f_q17 t.d_q17 ["_law_found"] (spD K (m_q17 t.C)):=
  T.fn_q17.okD sc_q17 fun cdv A outer s H E hr=>(pds_one (pd_ret (pd_and (pd_isi rfl T.b_isinstance rfl T.b_int L2.boot_int (pdn_of 0 (pv 0))) (pd_one (pd_not (pd_isi rfl T.b_isinstance rfl T.b_bool L2.boot_bool (pdn_of 0 (pv 0))))))))
noncomputable abbrev N_q14:List Str:=["_law_found", "_law_due_here"]
theorem sc_q14:FnScope N_q14 ["_law_found", "_law_due_here"] (defScope s_q14):=⟨rfl,rfl,rfl,by decide +kernel,rfl,by decide +kernel,by decide +kernel⟩
noncomputable def g_q14 (C:Addr):DF→Option RES:=
    (dSeq (dIf (orT (notT (asB (d1 (isTD "tuple") (getN 0)))) (orT (asB (d2 neD (d1 lenD (getN 0)) (fun _=>some (.int 4)))) (notT (asB (d1 (isTD "bool") (d2 ixD (getR 0) (fun _=>some (.int 3)))))))) (dRet (fun _=>some (.bl false))) dNx)
    (dRet (andV (callV (m_q17 C) (aV (d2 ixD (getR 0) (fun _=>some (.int 0))) (fun _=>some []))) (andV (callV (m_q17 C) (aV (d2 ixD (getR 0) (fun _=>some (.int 1))) (fun _=>some []))) (andV (callV (m_q17 C) (aV (d2 ixD (getR 0) (fun _=>some (.int 2))) (fun _=>some []))) (d2 eqD (getN 0) (getN 1)))))))
noncomputable def m_q14 (C:Addr):List DV→Option DV:=mOf 2 2 (g_q14 C)
theorem ok_q14 {P:Program} {w:World} {K:PySem.W.Frag} {mg:Str→Option Value} {base:Heap} {t:Adr} (T:Txt K mg t):FnOk P w K mg base CX0 2 t.f_q14 t.d_q14 ["_law_found", "_law_due_here"] (spD K (m_q14 t.C)):=
  T.fn_q14.okD sc_q14 fun cdv A outer s H E hr=>(pds_cons (pd_if (PDW.t (pw_orD (pt_notD (pt_valD (pd_isi rfl T.b_isinstance rfl T.b_tuple L2.boot_tuple (pdn_of 0 (pv 0))))) (pw_orD (pt_ne hr.h64 (PDE.n (pn_len rfl T.b_len (pdn_of 0 (pv 0)))) (PDE.n pd_int)) (pw_or1D (pt_notD (pt_valD (pd_isi rfl T.b_isinstance rfl T.b_bool L2.boot_bool (PDE.n (pd_ix (pdr_of 0 (pv 0)) (PDE.r pd_int)))))))))) (pds_one (pd_ret pd_bl)) pds_nil) (pds_one (pd_ret (pd_and (pd_call (ok_q17 T) (hr.mono (by decide)) rfl T.g_q17 T.fn_q17.kp T.bd_q17 (pdv_v (pd_ix (pdr_of 0 (pv 0)) (PDE.r pd_int)) pdv_nil)) (pd_and (pd_call (ok_q17 T) (hr.mono (by decide)) rfl T.g_q17 T.fn_q17.kp T.bd_q17 (pdv_v (pd_ix (pdr_of 0 (pv 0)) (PDE.r pd_int)) pdv_nil)) (pd_and (pd_call (ok_q17 T) (hr.mono (by decide)) rfl T.g_q17 T.fn_q17.kp T.bd_q17 (pdv_v (pd_ix (pdr_of 0 (pv 0)) (PDE.r pd_int)) pdv_nil)) (pd_one (pd_eq hr.h64 (pdn_of 0 (pv 0)) (pdn_of 1 (pv 1))))))))))
noncomputable abbrev N_q16:List Str:=["_law_web", "_law_kinds", "_law_ties_here", "_law_kind_here", "_law_found", "_law_due_here"]
theorem sc_q16:FnScope N_q16 ["_law_web", "_law_kinds", "_law_ties_here"] (defScope s_q16):=⟨rfl,rfl,rfl,by decide +kernel,rfl,by decide +kernel,by decide +kernel⟩
noncomputable def g_q16 (C:Addr):DF→Option RES:=
    (dSeq (dIf (orT (notT (asB (d1 (isCD C) (getN 0)))) (orT (notT (asB (d1 (isTD "list") (d1 (fldC C "kinds") (getR 0))))) (notT (asB (d1 (isTD "list") (d1 (fldC C "ties") (getR 0))))))) (dRet (fun _=>some (.bl false))) dNx)
    (dSeq (dIf (orT (asB (d2 neD (d1 lenD (d1 (fldC C "ties") (getR 0))) (d1 lenD (getN 2)))) (asB (d2 neD (d1 (fldC C "kinds") (getR 0)) (getN 1)))) (dRet (fun _=>some (.bl false))) dNx)
    (dSeq (dFor (lstOf (d1 (fldC C "kinds") (getR 0))) (setV 3) (dIf (notT (asB (d1 (isTD "str") (getN 3)))) (dRet (fun _=>some (.bl false))) dNx))
    (dSeq (dFor (zipOf (d1 (fldC C "ties") (getR 0)) (callV (m_q13 C) (aB 2 (fun _=>some [])))) (setT [4,5]) (dIf (notT (asB (callV (m_q14 C) (aB 4 (aB 5 (fun _=>some [])))))) (dRet (fun _=>some (.bl false))) dNx))
    (dRet (fun _=>some (.bl true)))))))
noncomputable def m_q16 (C:Addr):List DV→Option DV:=mOf 6 3 (g_q16 C)
theorem ok_q16 {P:Program} {w:World} {K:PySem.W.Frag} {mg:Str→Option Value} {base:Heap} {t:Adr} (T:Txt K mg t):FnOk P w K mg base CX0 3 t.f_q16 t.d_q16 ["_law_web", "_law_kinds", "_law_ties_here"] (spD K (m_q16 t.C)):=
  T.fn_q16.okD sc_q16 fun cdv A outer s H E hr=>(pds_cons (pd_if (PDW.t (pw_orD (pt_notD (pt_valD (pd_isC T.cl T.icC rfl T.b_isinstance rfl T.mgC (pdn_of 0 (pv 0))))) (pw_orD (pt_notD (pt_valD (pd_isi rfl T.b_isinstance rfl T.b_list L2.boot_list (PDE.n (pd_fld T.cl T.na_kinds (pdr_of 0 (pv 0))))))) (pw_or1D (pt_notD (pt_valD (pd_isi rfl T.b_isinstance rfl T.b_list L2.boot_list (PDE.n (pd_fld T.cl T.na_ties (pdr_of 0 (pv 0))))))))))) (pds_one (pd_ret pd_bl)) pds_nil) (pds_cons (pd_if (PDW.t (pw_orD (pt_ne hr.h64 (PDE.n (pn_len rfl T.b_len (PDE.n (pd_fld T.cl T.na_ties (pdr_of 0 (pv 0)))))) (PDE.n (pn_len rfl T.b_len (pdn_of 2 (pv 2))))) (pw_or1D (pt_ne hr.h64 (PDE.n (pd_fld T.cl T.na_kinds (pdr_of 0 (pv 0)))) (pdn_of 1 (pv 1)))))) (pds_one (pd_ret pd_bl)) pds_nil) (pds_cons (pd_for PassesOwn.never rfl (pdi_lst (pd_fld T.cl T.na_kinds (pdr_of 0 (pv 0)))) (pdg_name (i:=3) sc_q16.nd rfl (by first | exact Or.inl rfl | exact Or.inr rfl)) (pds_one (pd_if (pt_notD (pt_valD (pd_isi rfl T.b_isinstance rfl T.b_str L2.boot_str (pdn_of 3 (pv 3))))) (pds_one (pd_ret pd_bl)) pds_nil))) (pds_cons (pd_for PassesOwn.never rfl (pdi_zip rfl T.b_zip (pd_fld T.cl T.na_ties (pdr_of 0 (pv 0))) (pd_call (ok_q13 T) (hr.mono (by decide)) rfl T.g_q13 T.fn_q13.kp T.bd_q13 (pdv_b 2 (pv 2) pdv_nil))) (pdg_tup (is:=[4,5]) rfl (pgs_cons (pg_name (i:=4) sc_q16.nd rfl (by first | exact Or.inl rfl | exact Or.inr rfl)) (pgs_cons (pg_name (i:=5) sc_q16.nd rfl (by first | exact Or.inl rfl | exact Or.inr rfl)) pgs_nil))) (pds_one (pd_if (pt_notD (pt_valD (pd_call (ok_q14 T) (hr.mono (by decide)) rfl T.g_q14 T.fn_q14.kp T.bd_q14 (pdv_b 4 (pv 4) (pdv_b 5 (pv 5) pdv_nil))))) (pds_one (pd_ret pd_bl)) pds_nil))) (pds_one (pd_ret pd_bl))))))
noncomputable abbrev N_q1:List Str:=["self"]
theorem sc_q1:FnScope N_q1 ["self"] (defScope s_q1):=⟨rfl,rfl,rfl,by decide +kernel,rfl,by decide +kernel,by decide +kernel⟩
noncomputable def g_q1 (C:Addr):DF→Option RES:=
    (dRet (d1 lenD (d1 (fldC C "kinds") (getR 0))))
noncomputable def m_q1 (C:Addr):List DV→Option DV:=mOf 1 1 (g_q1 C)
theorem ok_q1 {P:Program} {w:World} {K:PySem.W.Frag} {mg:Str→Option Value} {base:Heap} {t:Adr} (T:Txt K mg t):FnOk P w K mg base CX0 1 t.f_q1 t.d_q1 ["self"] (spD K (m_q1 t.C)):=
  T.fn_q1.okD sc_q1 fun cdv A outer s H E hr=>(pds_one (pd_ret (pn_len rfl T.b_len (PDE.n (pd_fld T.cl T.na_kinds (pdr_of 0 (pv 0)))))))
noncomputable abbrev N_q6:List Str:=["_law_script", "_law_held", "_law_at", "_law_kinds", "_law_ties_here", "_law_handed", "_law_made", "_law_told", "_law_odd", "error", "_law_many"]
theorem sc_q6:FnScope N_q6 ["_law_script"] (defScope s_q6):=⟨rfl,rfl,rfl,by decide +kernel,rfl,by decide +kernel,by decide +kernel⟩
noncomputable def g_q6 (C:Addr):DF→Option RES:=
    (dSeq (dSetO 1 (asL lnil))
    (dSeq (dFor (rng3 (fun _=>some (.int 0)) (d2 maxD (fun _=>some (.int 1)) (d1 lenD (getN 0))) (fun _=>some (.int 12))) (setV 2) (dSeq (dSetT [3,4] (callV (m_q9 C) (aV (callV (m_q8 C) (aB 0 (aV (getV 2) (aV (fun _=>some (.int 12)) (fun _=>some []))))) (fun _=>some []))))
    (dSeq (dSetO 5 (fun ρ=>((itemsL (getR 3)) ρ).bind fun a=>((itemsL (getR 4)) ρ).map fun b=>OD.lst2 [a,b]))
    (dSeq (dSet 6 (fun _=>some .non))
    (dSeq (dSet 7 (asO (asL lnil)))
    (dSeq (dSet 8 (fun _=>some (.bl false)))
    (dSeq (dTryC (fun ρ=>(argL2 5 ρ).bind fun xs=>rx_Web__init C (.v (.ins C [])::xs)) 9 7 8 bs3 (dSet 6 (asO (makeL2 C (mM_q0 C) 5))))
    (dSeq (dIf (orT (asB (getV 8)) (orT (asB (d2 neD (getN 7) (callV (m_q10 C) (aB 3 (aB 4 (fun _=>some [])))))) (asB (d2 neD (getN 5) (asO (asL (lcons (getV 3) (lcons (getV 4) lnil)))))))) (dRet (fun _=>some (.bl false))) dNx)
    (dSeq (dIf (asB (d2 eqD (getN 7) (asO (asL lnil)))) (dApp 1 (asT (lcons (getV 6) (lcons (getV 3) (lcons (getV 4) lnil))))) dNx)
    (dSeq (dAppEL 5 0 (fun _=>some (.str "zz")))
    (dAppEL 5 1 (asT (lcons (fun _=>some (.int 0)) (lcons (fun _=>some (.int 1)) (lcons (fun _=>some (.int 5)) (lcons (fun _=>some (.bl true)) lnil))))))))))))))))
    (dSeq (dFrz 1 (dFor (lstOf (getV 1)) (setT [6,3,4]) (dSeq (dIf (notT (asB (callV (m_q16 C) (aB 6 (aB 3 (aB 4 (fun _=>some []))))))) (dRet (fun _=>some (.bl false))) dNx)
    (dSeq (dSet 10 (callMV C "size" (m_q1 C) (mArgs (selfB 6) g0)))
    (dIf (orT (notT (asB (callV (m_q17 C) (aB 10 (fun _=>some []))))) (asB (d2 neD (getN 10) (d1 lenD (getN 3))))) (dRet (fun _=>some (.bl false))) dNx)))))
    (dRet (fun _=>some (.bl true))))))
noncomputable def m_q6 (C:Addr):List DV→Option DV:=mOf 11 1 (g_q6 C)
theorem ok_q6 {P:Program} {w:World} {K:PySem.W.Frag} {mg:Str→Option Value} {base:Heap} {t:Adr} (T:Txt K mg t):FnOk P w K mg base CX0 6 t.f_q6 t.d_q6 ["_law_script"] (spD K (m_q6 t.C)):=
  T.fn_q6.okD sc_q6 fun cdv A outer s H E hr=>(pds_cons (pd_setO (i:=1) sc_q6.nd rfl (by first | exact Or.inl rfl | exact Or.inr rfl) (pdo_lst pdl_nil)) (pds_cons (pd_for PassesOwn.never rfl (pdi_range3 rfl T.b_range pd_int (pd_max2 rfl rfl T.b_max (PDE.n pd_int) (PDE.n (pn_len rfl T.b_len (pdn_of 0 (pv 0))))) pd_int) (pdg_name (i:=2) sc_q6.nd rfl (by first | exact Or.inl rfl | exact Or.inr rfl)) (pds_cons (pd_setT (pdg_tup (is:=[3,4]) rfl (pgs_cons (pg_name (i:=3) sc_q6.nd rfl (by first | exact Or.inl rfl | exact Or.inr rfl)) (pgs_cons (pg_name (i:=4) sc_q6.nd rfl (by first | exact Or.inl rfl | exact Or.inr rfl)) pgs_nil))) (pd_call (ok_q9 T) (hr.mono (by decide)) rfl T.g_q9 T.fn_q9.kp T.bd_q9 (pdv_v (pd_call (ok_q8 T) (hr.mono (by decide)) rfl T.g_q8 T.fn_q8.kp T.bd_q8 (pdv_b 0 (pv 0) (pdv_v (pde_of 2 (pv 2)) (pdv_v pd_int pdv_nil)))) pdv_nil))) (pds_cons (pd_setO (i:=5) sc_q6.nd rfl (by first | exact Or.inl rfl | exact Or.inr rfl) (pdo_lst2 (pdo_list rfl T.b_list (pdr_of 3 (pv 3))) (pdo_list rfl T.b_list (pdr_of 4 (pv 4))))) (pds_cons (pd_set (i:=6) sc_q6.nd rfl (by first | exact Or.inl rfl | exact Or.inr rfl) pd_non) (pds_cons (pd_set (i:=7) sc_q6.nd rfl (by first | exact Or.inl rfl | exact Or.inr rfl) (PDO.v (pdo_lst pdl_nil))) (pds_cons (pd_set (i:=8) sc_q6.nd rfl (by first | exact Or.inl rfl | exact Or.inr rfl) pd_bl) (pds_cons (pd_tryC (ie:=9) (it:=7) (io:=8) (bs:=bs3) (cl:=t.cl) (fun _ _ z=>z) (rzs_mk2 (fun _ _ z=>z) T.mkC (okx_Web__init T) (hr.mono (by decide)) rfl T.mgC T.bd_q0 (pa_two (pv 5) (pv 5))) (pds_one (pd_set (i:=6) sc_q6.nd rfl (by first | exact Or.inl rfl | exact Or.inr rfl) (PDO.v (pdo_mk2 T.mkC (ok_q0 T) (hr.mono (by decide)) rfl T.mgC T.bd_q0 (pa_two (pv 5) (pv 5)))))) rfl rfl rfl T.mx_WebError T.xm sc_q6.nd rfl rfl (by decide) (by decide) (fun k a ob hob=>ps_suite3' (ps_told sc_q6.nd rfl rfl rfl rfl (T.exC k) hob rfl T.b_isinstance rfl T.mx_TooGreat rfl T.mx_BadPlace rfl T.mx_BadTie (T.k0 k) (T.k1 k) (T.k2 k)) (ps_odd (cs:=[t.x_BadName,t.x_BadOrder,t.x_BadRule,t.x_BadText,t.x_NoWay,t.x_NoWeb,t.x_TooMany,t.x_Twice].map .ref) (cvs:=[t.x_BadName,t.x_BadOrder,t.x_BadRule,t.x_BadText,t.x_NoWay,t.x_NoWeb,t.x_TooMany,t.x_Twice].map .ref) sc_q6.nd rfl rfl rfl rfl (T.exC k) hob rfl T.b_isinstance (T.k4 k) (vals_refs _) (show 8≤sizeLine from by decide) (pa_r1 rfl T.mx_BadName (pa_r1 rfl T.mx_BadOrder (pa_r1 rfl T.mx_BadRule (pa_r1 rfl T.mx_BadText (pa_r1 rfl T.mx_NoWay (pa_r1 rfl T.mx_NoWeb (pa_r1 rfl T.mx_TooMany (pa_r1 rfl T.mx_Twice pa_r0))))))))) (ps_odd2 sc_q6.nd rfl rfl rfl rfl (T.exC k) hob rfl T.b_isinstance rfl T.b_ValueError (T.k3 k)) (by decide) (by decide) (show 8 < N_q6.length from by decide))) (pds_cons (pd_if (PDW.t (pw_orD (pt_valD (pde_of 8 (pv 8))) (pw_orD (pt_ne hr.h64 (pdn_of 7 (pv 7)) (PDE.n (pd_call (ok_q10 T) (hr.mono (by decide)) rfl T.g_q10 T.fn_q10.kp T.bd_q10 (pdv_b 3 (pv 3) (pdv_b 4 (pv 4) pdv_nil))))) (pw_or1D (pt_ne hr.h64 (pdn_of 5 (pv 5)) (PDE.n (PDO.v (pdo_lst (pdl_cons (pde_of 3 (pv 3)) (pdl_cons (pde_of 4 (pv 4)) pdl_nil)))))))))) (pds_one (pd_ret pd_bl)) pds_nil) (pds_cons (pd_if (pt_eq hr.h64 (pdn_of 7 (pv 7)) (PDE.n (PDO.v (pdo_lst pdl_nil)))) (pds_one (pd_append 1 (pv 1) (pd_tup (pdl_cons (pde_of 6 (pv 6)) (pdl_cons (pde_of 3 (pv 3)) (pdl_cons (pde_of 4 (pv 4)) pdl_nil)))))) pds_nil) (pds_cons (pd_appEL 5 0 (pv 5) pd_str) (pds_one (pd_appEL 5 1 (pv 5) (pd_tup (pdl_cons pd_int (pdl_cons pd_int (pdl_cons pd_int (pdl_cons pd_bl pdl_nil))))))))))))))))) (pds_cons (pd1_frz 1 (pd_for PassesOwn.never rfl (pdi_lst (pde_of 1 (pv 1))) (pdg_tup (is:=[6,3,4]) rfl (pgs_cons (pg_name (i:=6) sc_q6.nd rfl (by first | exact Or.inl rfl | exact Or.inr rfl)) (pgs_cons (pg_name (i:=3) sc_q6.nd rfl (by first | exact Or.inl rfl | exact Or.inr rfl)) (pgs_cons (pg_name (i:=4) sc_q6.nd rfl (by first | exact Or.inl rfl | exact Or.inr rfl)) pgs_nil)))) (pds_cons (pd_if (pt_notD (pt_valD (pd_call (ok_q16 T) (hr.mono (by decide)) rfl T.g_q16 T.fn_q16.kp T.bd_q16 (pdv_b 6 (pv 6) (pdv_b 3 (pv 3) (pdv_b 4 (pv 4) pdv_nil)))))) (pds_one (pd_ret pd_bl)) pds_nil) (pds_cons (pd_set (i:=10) sc_q6.nd rfl (by first | exact Or.inl rfl | exact Or.inr rfl) (pd_meth0 (pself_b 6 (pv 6)) T.cl T.mt_q1 (ok_q1 T) (hr.mono (by decide)) T.bd_q1)) (pds_one (pd_if (PDW.t (pw_orD (pt_notD (pt_valD (pd_call (ok_q17 T) (hr.mono (by decide)) rfl T.g_q17 T.fn_q17.kp T.bd_q17 (pdv_b 10 (pv 10) pdv_nil)))) (pw_or1D (pt_ne hr.h64 (pdn_of 10 (pv 10)) (PDE.n (pn_len rfl T.b_len (pdn_of 3 (pv 3)))))))) (pds_one (pd_ret pd_bl)) pds_nil)))))) (pds_one (pd_ret pd_bl)))))
end
theorem forD_ix {st:D→DF→Option DF} {body:DF→Option RES} (I:Nat→DF→Prop):∀ (ds:List D) (k:Nat) (ρ:DF),I k ρ→
    (∀ j d ρ,ds[j]?=some d→I (k + j) ρ→∃ ρ1,st d ρ=some ρ1∧∃ ρ',body ρ1=some (.nx ρ')∧I (k + j + 1) ρ')→∃ ρ',forD st body ds ρ=some (.nx ρ')∧I (k + ds.length) ρ'
  | [],k,ρ,h,_=>⟨ρ,rfl,h⟩
  | d::ds,k,ρ,h,hs=>by
    obtain ⟨ρ1,e1,ρ',e2,h'⟩:=hs 0 d ρ rfl h
    obtain ⟨ρ2,e3,h3⟩:=forD_ix I ds (k + 1) ρ' h' fun j d' ρ0 hj hI=>by
      have:=hs (j + 1) d' ρ0 (by simpa using hj) (by rw [← Nat.add_assoc,Nat.add_right_comm]; exact hI)
      rwa [show k + (j + 1) + 1=k + 1 + j + 1 by omega] at this
    refine ⟨ρ2,?_,by rw [List.length_cons,show k + (ds.length + 1)=k + 1 + ds.length by omega]; exact h3⟩
    unfold forD
    rw [e1]
    simp only [e2]
    exact e3
theorem forD_inv {st:D→DF→Option DF} {body:DF→Option RES} (I:DF→Prop) {ds:List D} {ρ:DF} (h:I ρ)
    (hs:∀ d∈ds,∀ ρ,I ρ→∃ ρ1,st d ρ=some ρ1∧∃ ρ',body ρ1=some (.nx ρ')∧I ρ'):∃ ρ',forD st body ds ρ=some (.nx ρ')∧I ρ':=
  forD_ix (fun _=>I) ds 0 ρ h fun j d ρ hj hI=>hs d (List.mem_of_getElem? hj) ρ hI
theorem mapD_map {st:D→DF→Option DF} {c:DF→Option Bool} {e:DF→Option D} {ρ:DF} {α:Type} (f:α→D) (F:α→D):∀ xs:List α,(∀ x∈xs,∃ ρ1,st (f x) ρ=some ρ1∧c ρ1=some true∧e ρ1=some (F x))→mapD st c e ρ (xs.map f)=some (xs.map F)
  | [],_=>rfl
  | x::xs,h=>by
    obtain ⟨ρ1,h1,h2,h3⟩:=h x List.mem_cons_self
    rw [List.map_cons]
    unfold mapD
    rw [h1,Option.bind_some,h2,Option.bind_some,if_pos rfl,h3,Option.bind_some,mapD_map f F xs fun y hy=>h y (List.mem_cons_of_mem _ hy)]
    rfl
theorem mapD_good {st:D→DF→Option DF} {c:DF→Option Bool} {e:DF→Option D} {ρ:DF} {α:Type} (f:α→D) (G:α→Prop):∀ ds:List D,(∀ d∈ds,∃ ρ1,st d ρ=some ρ1∧c ρ1=some true∧∃ y,e ρ1=some (f y)∧G y)→∃ ys:List α,mapD st c e ρ ds=some (ys.map f)∧ys.length=ds.length∧∀ y∈ys,G y
  | [],_=>⟨[],rfl,rfl,fun _ h=>by cases h⟩
  | x::xs,h=>by
    obtain ⟨ρ1,h1,h2,y,h3,h4⟩:=h x List.mem_cons_self
    obtain ⟨ys,q1,q2,q3⟩:=mapD_good f G xs fun y hy=>h y (List.mem_cons_of_mem _ hy)
    refine ⟨y::ys,?_,by simp [q2],fun z hz=>?_⟩
    · unfold mapD
      rw [h1,Option.bind_some,h2,Option.bind_some,if_pos rfl,h3,Option.bind_some,q1]
      rfl
    · rcases List.mem_cons.mp hz with rfl | hz
      · exact h4
      · exact q3 z hz
theorem eqd_int (i j:Int):eqd (.int i) (.int j)=decide (i=j):=by
  have h:=eqd_iff (.int i) (.int j) rfl
  by_cases e:i=j
  · rw [decide_eq_true e,h,e]
  · rw [decide_eq_false e]
    cases q:eqd (.int i) (.int j) with
    | false=>rfl
    | true=>exact absurd (by simpa using h.mp q) e
theorem eqd_bl (i j:Bool):eqd (.bl i) (.bl j)=decide (i=j):=by
  have h:=eqd_iff (.bl i) (.bl j) rfl
  by_cases e:i=j
  · rw [decide_eq_true e,h,e]
  · rw [decide_eq_false e]
    cases q:eqd (.bl i) (.bl j) with
    | false=>rfl
    | true=>exact absurd (by simpa using h.mp q) e
@[simp] theorem eqD_int (i j:Int):eqD (.int i) (.int j)=some (.bl (decide (i=j))):=by
  unfold eqD
  rw [eqd_int]
  rfl
@[simp] theorem eqD_bl (i j:Bool):eqD (.bl i) (.bl j)=some (.bl (decide (i=j))):=by
  unfold eqD
  rw [eqd_bl]
  rfl
@[simp] theorem neD_int (i j:Int):neD (.int i) (.int j)=some (.bl (!decide (i=j))):=by
  unfold neD
  rw [eqd_int]
  rfl
@[simp] theorem ltd_int (i j:Int):ltd (.int i) (.int j)=some (.bl (decide (i < j))):=rfl
@[simp] theorem gtI_int (i j:Int):gtI (.int i) (.int j)=some (.bl (decide (j < i))):=rfl
@[simp] theorem leA_int (i j:Int):leA (.int i) (.int j)=some (.bl (decide (i≤j))):=rfl
@[simp] theorem ltI_int (i j:Int):ltI (.int i) (.int j)=some (.bl (decide (i < j))):=rfl
@[simp] theorem addA_int (i j:Int):addA (.int i) (.int j)=some (.int (i + j)):=rfl
@[simp] theorem subD_int (i j:Int):subD (.int i) (.int j)=some (.int (i - j)):=rfl
theorem mulD_int (i j:Int) (h:(-(2 ^ 64) < i∧i < 2 ^ 64)∨(-(2 ^ 64) < j∧j < 2 ^ 64)):mulD (.int i) (.int j)=some (.int (i * j)):=if_pos (decide_eq_true h)
theorem modD_int (i j:Int) (h:0 < j):modD (.int i) (.int j)=some (.int (i % j)):=if_pos (decide_eq_true h)
theorem fdivD_int (i j:Int) (h:0 < j∧j < 1073741824):fdivD (.int i) (.int j)=some (.int (i / j)):=if_pos (decide_eq_true h)
@[simp] theorem powD_30:powD (.int 10) (.int 30)=some (.int 1000000000000000000000000000000):=rfl
section
variable {f fa fb fc:DF→Option D} {fo:DF→Option OD} {fl:DF→Option (List D)} {fv:DF→Option (List DV)} {c c':DF→Option Bool} {g h:DF→Option RES} {ρ:DF} {i j:Nat} {m:List DV→Option DV}
@[simp] theorem dSeq_ap:dSeq g h ρ=match g ρ with | some (.nx ρ')=>h ρ' | r=>r:=rfl
@[simp] theorem dSet_ap:dSet i f ρ=(f ρ).map fun d=>.nx (ρ.set i (some (.v d))):=rfl
@[simp] theorem dSetO_ap:dSetO i fo ρ=(fo ρ).map fun o=>.nx (ρ.set i (some (.own o none))):=rfl
@[simp] theorem dRet_ap:dRet f ρ=(f ρ).map fun d=>.rt (.v d) ρ:=rfl
@[simp] theorem dRetO_ap:dRetO fo ρ=(fo ρ).map fun o=>.rt (.own o none) ρ:=rfl
@[simp] theorem dRetS_ap:dRetS i ρ=match ρ[i]? with | some (some x)=>some (.rt x ρ) | _=>none:=rfl
@[simp] theorem dIf_ap:dIf c g h ρ=(c ρ).bind fun b=>if b=true then g ρ else h ρ:=rfl
@[simp] theorem dNx_ap:dNx ρ=some (.nx ρ):=rfl
@[simp] theorem dDrop_ap:dDrop f ρ=(f ρ).map fun _=>.nx ρ:=rfl
@[simp] theorem d1_ap {F:D→Option D}:d1 F fa ρ=(fa ρ).bind F:=rfl
@[simp] theorem d2_ap {F:D→D→Option D}:d2 F fa fb ρ=(fa ρ).bind fun x=>(fb ρ).bind fun y=>F x y:=rfl
@[simp] theorem getV_ap:getV i ρ=match ρ[i]? with | some (some (.v d))=>some d | _=>none:=rfl
@[simp] theorem getR_ap:getR i ρ=match ρ[i]? with | some (some (.v d))=>some d | some (some (.own o _))=>if o.flat=true then some o.d else none | some (some (.bor o))=>if o.flat=true then some o.d else none | _=>none:=rfl
@[simp] theorem getN_ap:getN i ρ=match ρ[i]? with | some (some (.v d))=>some d | some (some (.own o _))=>some o.d | some (some (.bor o))=>some o.d | _=>none:=rfl
@[simp] theorem aB_ap:aB i fv ρ=match ρ[i]? with | some (some (.own o _))=>(fv ρ).map fun xs=>.bor o::xs | some (some (.bor o))=>(fv ρ).map fun xs=>.bor o::xs | some (some (.v d))=>(fv ρ).map fun xs=>.v d::xs | _=>none:=rfl
@[simp] theorem aV_ap:aV f fv ρ=(f ρ).bind fun d=>(fv ρ).map fun xs=>.v d::xs:=rfl
@[simp] theorem callV_ap:callV m fv ρ=(fv ρ).bind fun xs=>(m xs).bind dvD:=rfl
@[simp] theorem callO_ap:callO m fv ρ=(fv ρ).bind fun xs=>(m xs).bind dvO:=rfl
@[simp] theorem asB_ap:asB f ρ=match f ρ with | some (.bl b)=>some b | _=>none:=rfl
@[simp] theorem asL_ap:asL fl ρ=(fl ρ).map .lst:=rfl
@[simp] theorem asO_ap:asO fo ρ=(fo ρ).map OD.d:=rfl
@[simp] theorem asT_ap:asT fl ρ=(fl ρ).map .tup:=rfl
@[simp] theorem lcons_ap:lcons f fl ρ=(f ρ).bind fun d=>(fl ρ).map fun r=>d::r:=rfl
@[simp] theorem lnil_ap:lnil ρ=some []:=rfl
@[simp] theorem notT_ap:notT c ρ=(c ρ).map fun b=>!b:=rfl
@[simp] theorem dYes_ap:dYes ρ=some true:=rfl
@[simp] theorem setV_ap {d:D}:setV i d ρ=some (ρ.set i (some (.v d))):=rfl
@[simp] theorem ifV_ap:ifV c f fa ρ=(c ρ).bind fun b=>if b=true then f ρ else fa ρ:=rfl
@[simp] theorem itemsL_ap:itemsL f ρ=(f ρ).bind itemsD:=rfl
theorem sortL_ap:sortL f ρ=(f ρ).bind fun d=>(itemsD d).bind fun ds=>if sortOk ds=true then some (sortD ds) else none:=rfl
theorem dFor_ap {it:DF→Option (List D)} {st:D→DF→Option DF}:dFor it st g ρ=(it ρ).bind fun ds=>forD st g ds ρ:=rfl
@[simp] theorem dFrz_ap:dFrz i g ρ=match ρ[i]? with | some (some (.own o none))=>g (ρ.set i (some (.v o.d))) | some (some (.v d))=>g ρ | _=>none:=rfl
theorem dComp_ap {own:Nat} {ix:List Nat} {it:DF→Option (List D)} {st:D→DF→Option DF} {e:DF→Option D}:dComp own ix it st c e ρ=(it ρ).bind fun ds=>if ds.length≤16777216 then mapD st c e (capD own ix ρ) ds else none:=rfl
@[simp] theorem andT_ap:andT c c' ρ=(c ρ).bind fun b=>if b=true then c' ρ else some false:=rfl
@[simp] theorem orT_ap:orT c c' ρ=(c ρ).bind fun b=>if b=true then some true else c' ρ:=rfl
@[simp] theorem andV_ap:andV f fa ρ=match f ρ with | some (.bl true)=>fa ρ | some (.bl false)=>some (.bl false) | _=>none:=rfl
@[simp] theorem orV_ap:orV f fa ρ=match f ρ with | some (.bl false)=>fa ρ | some (.bl true)=>some (.bl true) | _=>none:=rfl
@[simp] theorem notV_ap:notV f ρ=match f ρ with | some (.bl b)=>some (.bl (!b)) | _=>none:=rfl
@[simp] theorem chD_ap {F G:D→D→Option D}:chD F G fa fb fc ρ=(fa ρ).bind fun x=>(fb ρ).bind fun y=>match F x y with | some (.bl true)=>(fc ρ).bind fun z=>G y z | some (.bl false)=>some (.bl false) | _=>none:=rfl
@[simp] theorem lstOf_ap:lstOf f ρ=match f ρ with | some (.lst ds)=>some ds | _=>none:=rfl
@[simp] theorem borOf_ap:borOf i ρ=match ρ[i]? with | some (some (.bor (.lst ds)))=>some ds | some (some (.v (.lst ds)))=>some ds | _=>none:=rfl
theorem rng1_ap:rng1 f ρ=match f ρ with | some (.int j)=>if -(2 ^ 62)≤j∧j < 2 ^ 62 then some (rangeL 0 j.toNat) else none | _=>none:=rfl
@[simp] theorem slS_ap {b b':DF→Option (Option Int)}:slS f b b' ρ=match f ρ with | some (.str x)=>if x.length≤16777216 then (b ρ).bind fun l=>(b' ρ).map fun h=>.str (Txt.slice x l h) else none | _=>none:=rfl
theorem slL_ap {b b':DF→Option (Option Int)}:slL f b b' ρ=match f ρ with | some (.lst xs)=>(b ρ).bind fun l=>(b' ρ).map fun h=>cutL xs l h | _=>none:=rfl
@[simp] theorem dApp_ap:dApp i f ρ=match ρ[i]? with | some (some (.own (.lst ds) t))=>(f ρ).bind fun d=>if ds.length < 16777216 then some (.nx (ρ.set i (some (.own (.lst (ds++[d])) t)))) else none | _=>none:=rfl
@[simp] theorem dSetT_ap {is:List Nat}:dSetT is f ρ=(f ρ).bind fun d=>(setT is d ρ).map .nx:=rfl
@[simp] theorem bI_ap:bI f ρ=match f ρ with | some (.int i)=>some (some i) | _=>none:=rfl
@[simp] theorem bNo_ap:bNo ρ=some none:=rfl
end
@[simp] theorem odd1 {ds:List D}:(OD.lst ds).d=.lst ds:=rfl
@[simp] theorem odd2 {ds:List (List Key×D)}:(OD.dT ds).d=.dT ds:=rfl
@[simp] theorem odd3 {ds:List (Key×D)}:(OD.dK ds).d=.dK ds:=rfl
@[simp] theorem odd4 {C:Addr} {ds:List (Str×D)}:(OD.ins C ds).d=.ins C ds:=rfl
@[simp] theorem odf1 {ds:List D}:(OD.lst ds).flat=true:=rfl
@[simp] theorem odf2 {ds:List (List Key×D)}:(OD.dT ds).flat=true:=rfl
@[simp] theorem odf3 {ds:List (Key×D)}:(OD.dK ds).flat=true:=rfl
@[simp] theorem odf4 {C:Addr} {ds:List (Str×D)}:(OD.ins C ds).flat=true:=rfl
@[simp] theorem dvD1 {d:D}:dvD (.v d)=some d:=rfl
@[simp] theorem dvD2 {o:OD} {t:Option Addr}:dvD (.own o t)=some o.d:=rfl
@[simp] theorem dvO2 {o:OD} {t:Option Addr}:dvO (.own o t)=some o:=rfl
@[simp] theorem ret1 {x:DV} {ρ:DF}:retOf (some (.rt x ρ))=some x:=rfl
@[simp] theorem ret2 {ρ:DF}:retOf (some (.nx ρ))=some (.v .non):=rfl
@[simp] theorem cap1 {d:D}:capV (some (.v d))=some (.v d):=rfl
@[simp] theorem cap2 {o:OD} {t:Option Addr}:capV (some (.own o t))=some (.bor o):=rfl
@[simp] theorem cap3 {o:OD}:capV (some (.bor o))=some (.bor o):=rfl
@[simp] theorem capD_ap {own:Nat} {ix:List Nat} {ρ:DF}:capD own ix ρ=List.replicate own none++ix.map fun j=>capV (ρ[j]?).join:=rfl
@[simp] theorem items1 {ds:List D}:itemsD (.lst ds)=some ds:=rfl
@[simp] theorem items2 {ds:List D}:itemsD (.tup ds)=some ds:=rfl
@[simp] theorem len1 {ds:List D}:lenD (.lst ds)=some (.int ds.length):=rfl
@[simp] theorem len2 {ds:List D}:lenD (.tup ds)=some (.int ds.length):=rfl
theorem ix1 {ds:List D} {i:Int}:ixD (.lst ds) (.int i)=atI ds i:=rfl
theorem ix2 {ds:List D} {i:Int}:ixD (.tup ds) (.int i)=atI ds i:=rfl
@[simp] theorem mOf_ap {n p:Nat} {g:DF→Option RES} {xs:List DV}:mOf n p g xs=if xs.length=p then retOf (g (startD n p xs)) else none:=rfl
@[simp] theorem startD_ap {n p:Nat} {xs:List DV}:startD n p xs=xs.map some++List.replicate (n - p) none:=rfl
theorem dis3 {x:Int} (h:0≤x∧x < 3):x=0∨x=1∨x=2:=by
  obtain ⟨m,rfl⟩:=Int.eq_ofNat_of_zero_le h.1
  have key:∀ m:Fin 3,((m:Nat):Int)=0∨((m:Nat):Int)=1∨((m:Nat):Int)=2:=by decide
  exact key ⟨m,Int.ofNat_lt.mp h.2⟩
theorem dis5 {x:Int} (h:0≤x∧x < 5):x=0∨x=1∨x=2∨x=3∨x=4:=by
  obtain ⟨m,rfl⟩:=Int.eq_ofNat_of_zero_le h.1
  have key:∀ m:Fin 5,((m:Nat):Int)=0∨((m:Nat):Int)=1∨((m:Nat):Int)=2∨((m:Nat):Int)=3∨((m:Nat):Int)=4:=by decide
  exact key ⟨m,Int.ofNat_lt.mp h.2⟩
theorem mod3 (s:Int):s % 3=0∨s % 3=1∨s % 3=2:=dis3 ⟨Int.emod_nonneg s (by decide),Int.emod_lt_of_pos s (by decide)⟩
theorem mod5 (s:Int):s % 5=0∨s % 5=1∨s % 5=2∨s % 5=3∨s % 5=4:=dis5 ⟨Int.emod_nonneg s (by decide),Int.emod_lt_of_pos s (by decide)⟩
theorem mix_ok (C:Addr) (c k:Int) (hk:0≤k∧k≤1000):∃ r:Int,m_q12 C [.v (.int c),.v (.int k)]=some (.v (.int r))∧0≤r∧r < 998244353:=by
  have h1:mulD (.int 7919) (.int k)=some (.int (7919 * k)):=mulD_int _ _ (.inl (by decide))
  have h2:mulD (.int (7919 * k)) (.int k)=some (.int (7919 * k * k)):=mulD_int _ _ (.inr (by omega))
  have h3:∀ x,mulD (.int x) (.int 48271)=some (.int (x * 48271)):=fun x=>mulD_int _ _ (.inr (by decide))
  have h4:∀ x:Int,0≤x→x < 2147483629→mulD (.int x) (.int x)=some (.int (x * x)):=fun x _ _=>mulD_int _ _ (.inr (by omega))
  have m1:=modD_int c 2147483647 (by decide)
  have m2:=fun x=>modD_int x 2147483629 (by decide)
  have m3:=fun x=>modD_int x 998244353 (by decide)
  refine ⟨((c % 2147483647 + 1 + 7919 * k * k) * 48271 % 2147483629) * ((c % 2147483647 + 1 + 7919 * k * k) * 48271 % 2147483629) % 998244353,?_,Int.emod_nonneg _ (by decide),Int.emod_lt_of_pos _ (by decide)⟩
  simp [m_q12,g_q12,h1,h2,h3,h4,m1,m2,m3]
  rw [h4 _ (Int.emod_nonneg _ (by decide)) (Int.emod_lt_of_pos _ (by decide))]
  simp [m3]
noncomputable def okW (x:Str):Prop:=1≤x.cps.size∧x.cps.size≤3∧∀ c∈x.cps.toList,97≤c∧c≤122
noncomputable abbrev abc:Str := "abcdefghijklmnopqrstuvwxyz"
theorem abc_at (i:Int):∃ c:Nat,ixD (.str abc) (.int (i % 26))=some (.str ⟨#[c]⟩)∧97≤c∧c≤122:=by
  have h:∀ j:Fin 26,∃ c:Fin 123,ixD (.str abc) (.int (j:Nat))=some (.str ⟨#[(c:Nat)]⟩)∧97≤(c:Nat):=by
    intro j
    refine ⟨⟨97 + j,by omega⟩,?_,by simp⟩
    revert j
    have:∀ j:Fin 26,(atI abc.cps.toList ((j:Nat):Int))=some (97 + (j:Nat)):=by decide +kernel
    intro j
    show (if abc.length≤16777216 then (atI abc.cps.toList ((j:Nat):Int)).map fun c=>D.str ⟨#[c]⟩ else none)=_
    rw [this j]
    rfl
  have h0:0≤i % 26:=Int.emod_nonneg _ (by decide)
  have h1:i % 26 < 26:=Int.emod_lt_of_pos _ (by decide)
  obtain ⟨c,hc,hl⟩:=h ⟨(i % 26).toNat,by omega⟩
  refine ⟨c,?_,hl,by omega⟩
  rw [← hc]
  congr 2
  simp only
  omega
theorem word_ok (C:Addr) (s w:Int) (hs:0≤s) (hw:0≤w):∃ x:Str,m_q18 C [.v (.int s),.v (.int w)]=some (.v (.str x))∧okW x:=by
  have f9:=fdivD_int s 9 (by decide)
  have f3:=fdivD_int s 3 (by decide)
  have m26:=fun x=>modD_int x 26 (by decide)
  have m3:=fun x=>modD_int x 3 (by decide)
  have m4:=fun x=>modD_int x 4 (by decide)
  have u7:∀ x,mulD (.int 7) (.int x)=some (.int (7 * x)):=fun x=>mulD_int _ _ (.inl (by decide))
  obtain ⟨a0,h0,g0⟩:=abc_at (s / 9 + 7 * 0)
  obtain ⟨a1,h1,g1⟩:=abc_at (s / 9 + 7 * 1)
  obtain ⟨a2,h2,g2⟩:=abc_at (s / 9 + 7 * 2)
  have hc:∀ ρ:DF,ρ[2]?=some (some (.v (.str abc)))→ρ[0]?=some (some (.v (.int s)))→dComp 1 [2,0] (rng1 (fun _=>some (.int 3))) (setV 0) dYes (d2 ixD (getR 1) (d2 modD (d2 addA (d2 fdivD (getR 2) (fun _=>some (.int 9))) (d2 mulD (fun _=>some (.int 7)) (getR 0))) (fun _=>some (.int 26)))) ρ=some [.str ⟨#[a0]⟩,.str ⟨#[a1]⟩,.str ⟨#[a2]⟩]:=by
    intro ρ e1 e2
    have r3:rng1 (fun _=>some (.int 3)) ρ=some [.int 0,.int 1,.int 2]:=rfl
    unfold dComp
    rw [r3]
    simp only [Int.mul_zero,Int.mul_one] at h0 h1 h2
    simp [mapD,e1,e2,f9,u7,m26]
    simp at h0 h2
    rw [h0,h1,h2]
    rfl
  have hj:joinM (.str "") (.lst [.str ⟨#[a0]⟩,.str ⟨#[a1]⟩,.str ⟨#[a2]⟩])=some (.str ⟨#[a0,a1,a2]⟩):=rfl
  have hl:(⟨#[a0,a1,a2]⟩:Str).length=3:=rfl
  have hs3:=mod3 s
  have hw3:=mod3 w
  have mz:∀ x:Int,modD (.int x) (.int (1 + s % 3))=some (.int (x % (1 + s % 3))):=fun x=>modD_int _ _ (by omega)
  have t1:Txt.slice ⟨#[a0,a1,a2]⟩ none (some 1)=⟨#[a0]⟩:=rfl
  have t2:Txt.slice ⟨#[a0,a1,a2]⟩ none (some 2)=⟨#[a0,a1]⟩:=rfl
  have t3:Txt.slice ⟨#[a0,a1,a2]⟩ none (some 3)=⟨#[a0,a1,a2]⟩:=rfl
  have t0:Txt.slice ⟨#[a0,a1,a2]⟩ none (some 0)=⟨#[]⟩:=rfl
  have t11:Txt.slice ⟨#[a0,a1,a2]⟩ (some 1) (some 1)=⟨#[]⟩:=rfl
  have t12:Txt.slice ⟨#[a0,a1,a2]⟩ (some 1) (some 2)=⟨#[a1]⟩:=rfl
  have t13:Txt.slice ⟨#[a0,a1,a2]⟩ (some 1) (some 3)=⟨#[a1,a2]⟩:=rfl
  have t22:Txt.slice ⟨#[a0,a1,a2]⟩ (some 2) (some 2)=⟨#[]⟩:=rfl
  have t23:Txt.slice ⟨#[a0,a1,a2]⟩ (some 2) (some 3)=⟨#[a2]⟩:=rfl
  have t33:Txt.slice ⟨#[a0,a1,a2]⟩ (some 3) (some 3)=⟨#[]⟩:=rfl
  by_cases h4:s / 3 % 4=0
  · have e:m_q18 C [.v (.int s),.v (.int w)]=some (.v (.str (Txt.slice ⟨#[a0,a1,a2]⟩ none (some (1 + w % 3))))):=by
      simp [m_q18,g_q18,hc,hj,hl,f9,f3,m26,m3,m4,u7,h4]
    refine ⟨_,e,?_⟩
    rcases hw3 with h | h | h <;> rw [h]
    · show okW (Txt.slice _ none (some 1)); rw [t1]; simp [okW]; omega
    · show okW (Txt.slice _ none (some 2)); rw [t2]; simp [okW]; omega
    · show okW (Txt.slice _ none (some 3)); rw [t3]; simp [okW]; omega
  · obtain ⟨b,hb,gb⟩:=abc_at (s / 9 + 7 * (s / 3 % (1 + s % 3)) + w)
    have go:∀ p z:Int,s / 3 % (1 + s % 3)=p→1 + s % 3=z→∀ x y:Str,Txt.slice ⟨#[a0,a1,a2]⟩ none (some p)=x→Txt.slice ⟨#[a0,a1,a2]⟩ (some (p + 1)) (some z)=y→x.length + 1 + y.length≤16777216→
        m_q18 C [.v (.int s),.v (.int w)]=some (.v (.str (x++⟨#[b]⟩++y))):=by
      intro p z hp hz x y hx hy hn
      rw [hp] at hb
      have q1:addA (.str x) (.str ⟨#[b]⟩)=some (.str (x++⟨#[b]⟩)):=if_pos (show x.length + 1≤16777216 by omega)
      have q2:addA (.str (x++⟨#[b]⟩)) (.str y)=some (.str (x++⟨#[b]⟩++y)):=if_pos (by
        have:(x++(⟨#[b]⟩:Str)).length=x.length + 1:=by
          show (x.cps++#[b]).size=_
          simp
          rfl
        rw [this]; exact hn)
      have mz':modD (.int (s / 3)) (.int z)=some (.int p):=by rw [← hz,← hp]; exact mz _
      simp [m_q18,g_q18,hc,hj,hl,f9,f3,m26,m3,m4,mz',u7,h4,hz,hb,hx,hy,q1,q2]
    have hp:(s % 3=0∧s / 3 % (1 + s % 3)=0)∨(s % 3=1∧(s / 3 % (1 + s % 3)=0∨s / 3 % (1 + s % 3)=1))∨(s % 3=2∧(s / 3 % (1 + s % 3)=0∨s / 3 % (1 + s % 3)=1∨s / 3 % (1 + s % 3)=2)):=by
      rcases hs3 with h | h | h
      · refine .inl ⟨h,?_⟩; rw [h]; show s / 3 % 1=0; omega
      · refine .inr (.inl ⟨h,?_⟩); rw [h]; show s / 3 % 2=0∨s / 3 % 2=1; omega
      · refine .inr (.inr ⟨h,?_⟩); rw [h]; show s / 3 % 3=0∨s / 3 % 3=1∨s / 3 % 3=2; omega
    rcases hp with ⟨h,p⟩ | ⟨h,p | p⟩ | ⟨h,p | p | p⟩
    · exact ⟨_,go 0 1 p (by rw [h]; rfl) _ _ t0 t11 (by decide),by show okW ⟨#[b]⟩; simp [okW]; omega⟩
    · exact ⟨_,go 0 2 p (by rw [h]; rfl) _ _ t0 t12 (by show 0 + 1 + 1≤_; decide),by show okW ⟨#[b,a1]⟩; simp [okW]; omega⟩
    · exact ⟨_,go 1 2 p (by rw [h]; rfl) _ _ t1 t22 (by show 1 + 1 + 0≤_; decide),by show okW ⟨#[a0,b]⟩; simp [okW]; omega⟩
    · exact ⟨_,go 0 3 p (by rw [h]; rfl) _ _ t0 t13 (by show 0 + 1 + 2≤_; decide),by show okW ⟨#[b,a1,a2]⟩; simp [okW]; omega⟩
    · exact ⟨_,go 1 3 p (by rw [h]; rfl) _ _ t1 t23 (by show 1 + 1 + 1≤_; decide),by show okW ⟨#[a0,b,a2]⟩; simp [okW]; omega⟩
    · exact ⟨_,go 2 3 p (by rw [h]; rfl) _ _ t2 t33 (by show 2 + 1 + 0≤_; decide),by show okW ⟨#[a0,a1,b]⟩; simp [okW]; omega⟩
theorem kind_ok (C:Addr) (c s:Int) (hs:0≤s∧s < 998244353):∃ k:Int,m_q11 C [.v (.int c),.v (.int s)]=some (.v (.int k))∧0≤k∧k < 1000000000000000000000000000000:=by
  obtain ⟨r,hr,r0,r1⟩:=mix_ok C c 3 (by decide)
  have u1:mulD (.int (s + 1)) (.int 618033988749894848204586834367)=some (.int ((s + 1) * 618033988749894848204586834367)):=mulD_int _ _ (.inl (by omega))
  have m1:=fun x=>modD_int x 1000000000000000000000000000000 (by decide)
  have m5:=fun x=>modD_int x 5 (by decide)
  generalize hf:(s + 1) * 618033988749894848204586834367 % 1000000000000000000000000000000=f
  have f0:0≤f:=by omega
  have f1:f < 1000000000000000000000000000000:=by omega
  have h5:=mod5 r
  have base:m_q11 C [.v (.int c),.v (.int s)]=if r % 5=4 then some (.v (.int (c % 1000000000000000000000000000000))) else (atI [D.int f,.int f,.int ((f + 1) % 1000000000000000000000000000000),.int 0] (r % 5)).map .v:=by
    by_cases h:r % 5=4
    · simp [m_q11,g_q11,u1,m1,m5,hr,h,hf]
    · simp [m_q11,g_q11,u1,m1,m5,hr,h,hf,ix1]
      cases atI [D.int f,.int f,.int ((f + 1) % 1000000000000000000000000000000),.int 0] (r % 5) <;> rfl
  rcases h5 with h | h | h | h | h <;> rw [base,h]
  · exact ⟨f,rfl,f0,f1⟩
  · exact ⟨f,rfl,f0,f1⟩
  · exact ⟨_,rfl,by omega,by omega⟩
  · exact ⟨0,rfl,by decide,by decide⟩
  · exact ⟨_,rfl,by omega,by omega⟩
noncomputable def rngI (n:Int):List Int:=(List.range n.toNat).map fun i:Nat=>(i:Int)
theorem rngI_len (n:Int):(rngI n).length=n.toNat:=by simp [rngI]
theorem mem_rngI {n i:Int}:i∈rngI n↔0≤i∧i < n:=by
  unfold rngI
  rw [List.mem_map]
  constructor
  · rintro ⟨k,hk,rfl⟩
    have:=List.mem_range.mp hk
    omega
  · rintro ⟨h0,h1⟩
    exact ⟨i.toNat,List.mem_range.mpr (by omega),by omega⟩
theorem rangeL_eq (n:Int):rangeL 0 n.toNat=(rngI n).map D.int:=by
  unfold rangeL rngI
  simp
noncomputable def dP (p:Int×Int):D:=.tup [.int p.1,.int p.2]
theorem mOf_1 {n:Nat} {g:DF→Option RES} {a:DV}:mOf n 1 g [a]=retOf (g (startD n 1 [a])):=rfl
theorem mOf_2 {n:Nat} {g:DF→Option RES} {a b:DV}:mOf n 2 g [a,b]=retOf (g (startD n 2 [a,b])):=rfl
theorem mOf_3 {n:Nat} {g:DF→Option RES} {a b c:DV}:mOf n 3 g [a,b,c]=retOf (g (startD n 3 [a,b,c])):=rfl
theorem mOf_4 {n:Nat} {g:DF→Option RES} {a b c d:DV}:mOf n 4 g [a,b,c,d]=retOf (g (startD n 4 [a,b,c,d])):=rfl
theorem rngI_at {n:Int} {j:Nat} {d:D} (h:((rngI n).map D.int)[j]?=some d):d=.int (j:Int):=by
  unfold rngI at h
  rw [List.getElem?_map,List.getElem?_map] at h
  cases q:(List.range n.toNat)[j]? with
  | none=>rw [q] at h; cases h
  | some k=>
    rw [q] at h
    obtain ⟨h1,h2⟩:=List.getElem?_eq_some_iff.mp q
    rw [List.getElem_range] at h2
    subst h2
    cases h
    rfl
noncomputable abbrev T4:=Int×Int×Int×Bool
noncomputable def dT4 (t:T4):D:=.tup [.int t.1,.int t.2.1,.int t.2.2.1,.bl t.2.2.2]
noncomputable def okT (n:Int) (t:T4):Prop:=0≤t.1∧t.1 < n∧0≤t.2.1∧t.2.1 < n∧t.1≠t.2.1∧0≤t.2.2.1∧t.2.2.1 < 1000000000000000000000000000000
theorem atI_in {α:Type} {l:List α} {i:Int} (h0:0≤i) (h1:i < l.length):atI l i=l[i.toNat]?:=by
  unfold atI ixN
  rw [if_pos h0,if_pos h1]
  rfl
theorem atI_map {α β:Type} {l:List α} (f:α→β) {i:Int} (h0:0≤i) (h1:i < l.length):∃ x,l[i.toNat]?=some x∧atI (l.map f) i=some (f x):=by
  have h:i.toNat < l.length:=by omega
  refine ⟨l[i.toNat],List.getElem?_eq_getElem h,?_⟩
  rw [atI_in h0 (by rw [List.length_map]; exact h1),List.getElem?_map,List.getElem?_eq_getElem h]
  rfl
theorem rng1_of {f:DF→Option D} {ρ:DF} {n:Int} (h:f ρ=some (.int n)) (hn:0≤n∧n≤1000):rng1 f ρ=some ((rngI n).map .int):=by
  have hb:-(2 ^ 62)≤n∧n < 2 ^ 62:=by omega
  rw [rng1_ap,h]
  simp only
  rw [if_pos hb,rangeL_eq]
theorem dSeq_nx {g h:DF→Option RES} {ρ ρ':DF} (e:g ρ=some (.nx ρ')):dSeq g h ρ=h ρ':=by rw [dSeq_ap,e]
theorem dSeq_rt {g h:DF→Option RES} {ρ ρ':DF} {x:DV} (e:g ρ=some (.rt x ρ')):dSeq g h ρ=some (.rt x ρ'):=by rw [dSeq_ap,e]
noncomputable def lf (t:T4):T4:=if t.2.2.2=true∨t.1 < t.2.1 then t else (t.2.1,t.1,t.2.2.1,t.2.2.2)
theorem sortOk_T4 (ts:List T4) (h:ts.length < 64):sortOk (ts.map dT4)=true:=by
  unfold sortOk
  simp only [Bool.and_eq_true,decide_eq_true_eq,List.all_eq_true,List.length_map]
  refine ⟨⟨⟨⟨h,?_⟩,?_⟩,?_⟩,?_⟩
  · intro x hx; obtain ⟨t,_,rfl⟩:=List.mem_map.mp hx; rfl
  · intro x hx y hy; obtain ⟨t,_,rfl⟩:=List.mem_map.mp hx; obtain ⟨u,_,rfl⟩:=List.mem_map.mp hy; rfl
  · intro x hx; obtain ⟨t,_,rfl⟩:=List.mem_map.mp hx; rfl
  · intro x hx; obtain ⟨t,_,rfl⟩:=List.mem_map.mp hx; rfl
theorem perm_map_inv {α:Type} (f:α→D) (g:D→α) (hg:∀ a,g (f a)=a) {l:List D} {ts:List α} (h:l.Perm (ts.map f)):∃ us:List α,l=us.map f∧us.Perm ts:=by
  refine ⟨l.map g,?_,?_⟩
  · rw [List.map_map]
    conv=>lhs; rw [← List.map_id l]
    refine List.map_congr_left fun x hx=>?_
    obtain ⟨t,_,rfl⟩:=List.mem_map.mp (h.mem_iff.mp hx)
    show _=f (g (f t))
    rw [hg]
    rfl
  · have:=h.map g
    rw [List.map_map,show g ∘ f=id from funext hg,List.map_id] at this
    exact this
noncomputable def unT4:D→T4
  | .tup [.int a,.int b,.int k,.bl o]=>(a,b,k,o)
  | _=>(0,0,0,false)
noncomputable def unI:D→Int
  | .int a=>a
  | _=>0
theorem sort_T4 (ts:List T4):∃ us:List T4,sortD (ts.map dT4)=us.map dT4∧us.Perm ts:=perm_map_inv dT4 unT4 (fun _=>rfl) (sortD_perm _)
theorem plain_ok (C:Addr) (ts:List T4) (hl:ts.length≤12):m_q13 C [.v (.lst (ts.map dT4))]=some (.own (.lst (sortD ((ts.map lf).map dT4))) none):=by
  obtain ⟨z,e,us,y2,y3,y4,y5,rfl,hus⟩:=forD_ix (st:=setT [2,3,4,5]) (body:=(dIf (asB (getV 5)) (dApp 1 (asT (lcons (getV 2) (lcons (getV 3) (lcons (getV 4) (lcons (fun _=>some (.bl true)) lnil)))))) (dApp 1 (asT (lcons (d2 minD (getN 2) (getN 3)) (lcons (d2 maxD (getN 2) (getN 3)) (lcons (getV 4) (lcons (fun _=>some (.bl false)) lnil))))))))
    (fun j ρ=>∃ (us:List T4) (x2 x3 x4 x5:Option DV),ρ=[some (.v (.lst (ts.map dT4))),some (.own (.lst (us.map dT4)) none),x2,x3,x4,x5]∧us=(ts.take j).map lf) (ts.map dT4) 0
    [some (.v (.lst (ts.map dT4))),some (.own (.lst []) none),none,none,none,none] ⟨[],_,_,_,_,rfl,rfl⟩ (by
      rintro j d _ hj ⟨us,x2,x3,x4,x5,rfl,hu⟩
      rw [List.getElem?_map] at hj
      cases q:ts[j]? with
      | none=>rw [q] at hj; cases hj
      | some t=>
        rw [q] at hj
        cases hj
        have hlt:j < ts.length:=(List.getElem?_eq_some_iff.mp q).1
        have hul:us.length < 16777216:=by rw [hu,List.length_map,List.length_take]; omega
        have htk:(ts.take (0 + j + 1)).map lf=us++[lf t]:=by
          rw [hu,Nat.zero_add,List.take_add_one,q,List.map_append]
          rfl
        obtain ⟨a,b,k,o⟩:=t
        refine ⟨[some (.v (.lst (ts.map dT4))),some (.own (.lst (us.map dT4)) none),some (.v (.int a)),some (.v (.int b)),some (.v (.int k)),some (.v (.bl o))],rfl,[some (.v (.lst (ts.map dT4))),some (.own (.lst ((us++[lf (a,b,k,o)]).map dT4)) none),some (.v (.int a)),some (.v (.int b)),some (.v (.int k)),some (.v (.bl o))],?_,us++[lf (a,b,k,o)],_,_,_,_,rfl,htk.symm⟩
        cases o with
        | true=>simp [hul,lf,dT4]
        | false=>
          have e1:minD (.int a) (.int b)=some (.int (if b < a then b else a)):=rfl
          have e2:maxD (.int a) (.int b)=some (.int (if b > a then b else a)):=rfl
          have e3:dT4 (lf (a,b,k,false))=.tup [.int (if b < a then b else a),.int (if b > a then b else a),.int k,.bl false]:=by
            unfold lf dT4
            by_cases h:a < b
            · simp [h,show ¬ b < a by omega]
            · by_cases h2:b < a
              · simp [h,h2]
              · have:a=b:=by omega
                subst this
                simp
          simp [hul,e1,e2,e3])
  have hso:=sortOk_T4 (ts.map lf) (by rw [List.length_map]; omega)
  have hus':us=ts.map lf:=by rw [hus,Nat.zero_add,List.length_map,List.take_length]
  subst hus'
  have q1:∀ G,(dSeq (dSetO 1 (asL lnil)) (dSeq (dFor (borOf 0) (setT [2,3,4,5]) (dIf (asB (getV 5)) (dApp 1 (asT (lcons (getV 2) (lcons (getV 3) (lcons (getV 4) (lcons (fun _=>some (.bl true)) lnil)))))) (dApp 1 (asT (lcons (d2 minD (getN 2) (getN 3)) (lcons (d2 maxD (getN 2) (getN 3)) (lcons (getV 4) (lcons (fun _=>some (.bl false)) lnil)))))))) G)) (startD 6 1 [.v (.lst (ts.map dT4))])=G [some (.v (.lst (ts.map dT4))),some (.own (.lst ((ts.map lf).map dT4)) none),y2,y3,y4,y5]:=by
    intro G
    show (match forD _ _ (ts.map dT4) [some (.v (.lst (ts.map dT4))),some (.own (.lst []) none),none,none,none,none] with | some (.nx ρ')=>G ρ' | r=>r)=_
    rw [e]
  unfold m_q13 g_q13
  rw [mOf_1,q1]
  have q2:sortL (getR 1) [some (.v (.lst (ts.map dT4))),some (.own (.lst ((ts.map lf).map dT4)) none),y2,y3,y4,y5]=some (sortD ((ts.map lf).map dT4)):=by
    show (if sortOk ((ts.map lf).map dT4)=true then _ else _)=_
    rw [if_pos hso]
  rw [dRetO_ap,asL_ap,q2]
  rfl
theorem putD_len {κ:Type} [DecidableEq κ] (k:κ) (v:D) (kvs:List (κ×D)):(putD kvs k v).length≤kvs.length + 1:=by
  unfold putD
  split
  · simp
  · simp
theorem cutL_map {α β:Type} (f:α→β) (l:List α) (a b:Option Int):cutL (l.map f) a b=(cutL l a b).map f:=by
  unfold cutL
  rw [List.length_map,List.map_take,List.map_drop]
theorem cutL_len {α:Type} (l:List α) (a b:Option Int):(cutL l a b).length≤l.length:=by
  unfold cutL
  rw [List.length_take,List.length_drop]
  omega
noncomputable def okK (n:Int) (ks:List Str):Prop:=(ks.length:Int)=n∧∀ k∈ks,okW k
noncomputable def okS (n:Int) (ts:List T4):Prop:=ts.length≤12∧∀ t∈ts,okT n t
theorem ixN_in {l:Nat} {i:Int} (h0:0≤i) (h1:i < l):ixN l i=some i.toNat:=by
  unfold ixN
  rw [if_pos h0,if_pos h1]
theorem dSetIx_ap {i:Nat} {f g:DF→Option D} {ρ:DF}:dSetIx i f g ρ=match ρ[i]? with
  | some (some (.own (.lst ds) t))=>(g ρ).bind fun d=>(f ρ).bind fun
    | .int k=>(ixN ds.length k).map fun j=>.nx (ρ.set i (some (.own (.lst (ds.set j d)) t)))
    | _=>none
  | _=>none:=rfl
theorem cutL_to {α:Type} (l:List α) {k:Int} (h:0≤k):cutL l none (some k)=l.take k.toNat:=by
  unfold cutL HT.sIx
  simp only [List.drop_zero,Nat.sub_zero]
  rw [if_neg (by omega),← List.take_take,List.take_length]
theorem addA_lst (xs ys:List D) (h:xs.length + ys.length≤16777216):addA (.lst xs) (.lst ys)=some (.lst (xs++ys)):=if_pos h
theorem cells_ok (C:Addr) (ns:List Int) (a:Int) (ha:0≤a) (hl:ns.length≤63):∃ cs:List Int,m_q8 C [.v (.lst (ns.map .int)),.v (.int a),.v (.int 12)]=some (.own (.lst (cs.map .int)) none)∧cs.length=12:=by
  have hq:=cutL_len ns (some a) (some (a + 12))
  have e1:cutL (ns.map D.int) (some a) (some (a + 12))=(cutL ns (some a) (some (a + 12))).map D.int:=cutL_map _ _ _ _
  generalize hQ:cutL ns (some a) (some (a + 12))=Q at *
  let X:List Int:=[a + 1,5,2,9,4,7,1,8,3,6,0,11,13,12,10,14]
  have e2:cutL ((Q++X).map D.int) none (some 12)=((Q++X).take 12).map D.int:=by rw [cutL_map,cutL_to _ (by decide)]; rfl
  refine ⟨(Q++X).take 12,?_,by rw [List.length_take,List.length_append]; show min 12 (Q.length + 16)=12; omega⟩
  have e3:addA (.lst (Q.map D.int)) (.lst (X.map D.int))=some (.lst ((Q++X).map D.int)):=by
    rw [addA_lst _ _ (by rw [List.length_map,List.length_map]; show Q.length + 16≤_; omega),List.map_append]
  generalize ((Q++X).take 12).map D.int=R at *
  generalize (Q++X).map D.int=S at *
  have e3:addA (.lst (Q.map D.int)) (.lst [.int (a + 1),.int 5,.int 2,.int 9,.int 4,.int 7,.int 1,.int 8,.int 3,.int 6,.int 0,.int 11,.int 13,.int 12,.int 10,.int 14])=some (.lst S):=e3
  simp [m_q8,g_q8,slL_ap,e1,e2,e3]
theorem dFor_nx {it:DF→Option (List D)} {st:D→DF→Option DF} {g:DF→Option RES} {ρ:DF} {ds:List D} {r:RES} (h:it ρ=some ds) (e:forD st g ds ρ=some r):dFor it st g ρ=some r:=by
  rw [dFor_ap,h]
  exact e
theorem place_ok (C:Addr) (x:Str) (h:okW x):m_q2 C [.v (.str x)]=some (.v (.bl true)):=by
  obtain ⟨h1,h3,hc⟩:=h
  have e1:mapD (setV 0) dYes (chD leA leA (fun _=>some (.str "a")) (getN 0) (fun _=>some (.str "z"))) [none] (L2.signs x)=some (x.cps.toList.map fun _=>D.bl true):=by
    unfold L2.signs
    refine mapD_map (fun c=>D.str ⟨#[c]⟩) (fun _=>D.bl true) _ fun c hm=>?_
    obtain ⟨c1,c2⟩:=hc c hm
    refine ⟨[some (.v (.str ⟨#[c]⟩))],rfl,rfl,?_⟩
    have l1:leA (.str "a") (.str ⟨#[c]⟩)=some (.bl true):=by
      show some (D.bl (!decide ([c] < [97])))=_
      have:¬ ([c] < [97]):=fun h=>by rcases List.cons_lt_cons_iff.mp h with h | ⟨_,h⟩; omega; exact absurd h (List.not_lt_nil _)
      rw [decide_eq_false this]; rfl
    have l2:leA (.str ⟨#[c]⟩) (.str "z")=some (.bl true):=by
      show some (D.bl (!decide ([122] < [c])))=_
      have:¬ ([122] < [c]):=fun h=>by rcases List.cons_lt_cons_iff.mp h with h | ⟨_,h⟩; omega; exact absurd h (List.not_lt_nil _)
      rw [decide_eq_false this]; rfl
    simp [l1,l2]
  have hsz:(L2.signs x).length≤16777216:=by unfold L2.signs; rw [List.length_map,Array.length_toList]; omega
  have e2:allD (.lst (x.cps.toList.map fun _=>D.bl true))=some (.bl true):=by
    have a1:((x.cps.toList.map fun _=>D.bl true).all isBl)=true:=by simp [isBl]
    have a2:((x.cps.toList.map fun _=>D.bl true).all trD)=true:=by simp [trD]
    show (if ((x.cps.toList.map fun _=>D.bl true).all isBl)=true then some (D.bl ((x.cps.toList.map fun _=>D.bl true).all trD)) else none)=_
    rw [if_pos a1,a2]
  have e3:lenD (.str x)=some (.int (x.cps.size:Int)):=if_pos (show x.cps.size≤16777216 by omega)
  have d1':dComp 1 [] (strOf (getV 0)) (setV 0) dYes (chD leA leA (fun _=>some (.str "a")) (getN 0) (fun _=>some (.str "z"))) [some (.v (.str x)),none]=some (x.cps.toList.map fun _=>D.bl true):=by
    have:strOf (getV 0) [some (.v (.str x)),none]=some (L2.signs x):=rfl
    rw [dComp_ap,this,Option.bind_some,if_pos hsz]
    exact e1
  unfold m_q2 g_q2
  have g1:(1:Int)≤(x.cps.size:Int):=by omega
  have g2:(x.cps.size:Int)≤3:=by omega
  generalize (chD leA leA (fun _=>some (.str "a")) (getN 0) (fun _=>some (.str "z")))=E' at d1' ⊢
  generalize (x.cps.toList.map fun _=>D.bl true)=L at *
  simp [d1',e2,e3,g1,g2]
theorem tie_ok (C:Addr) (t:T4) (n:Int) (h:okT n t):m_q3 C [.v (dT4 t),.v (.int n)]=some (.v (.bl true)):=by
  obtain ⟨a,b,k,o⟩:=t
  obtain ⟨a0,a1,b0,b1,ab,k0,k1⟩:=h
  simp only at a0 a1 b0 b1 ab k0 k1
  have ea:atI [D.int a,.int b,.int k,.bl o] 0=some (.int a):=rfl
  have eb:atI [D.int a,.int b,.int k,.bl o] 1=some (.int b):=rfl
  have ek:atI [D.int a,.int b,.int k,.bl o] 2=some (.int k):=rfl
  have hk:m_q4 C [.v (.int k)]=some (.v (.bl true)):=by
    simp [m_q4,g_q4,k0,k1]
  unfold m_q3 g_q3
  generalize m_q4 C=M at hk ⊢
  simp [dT4,ix2,ea,eb,ek,a0,a1,b0,b1,ab,hk]
theorem lesser_ok (C:Addr) (t:T4):m_q20 C [.v (dT4 t)]=some (.v (dT4 (lf t))):=by
  obtain ⟨a,b,k,o⟩:=t
  have ea:atI [D.int a,.int b,.int k,.bl o] 0=some (.int a):=rfl
  have eb:atI [D.int a,.int b,.int k,.bl o] 1=some (.int b):=rfl
  have ek:atI [D.int a,.int b,.int k,.bl o] 2=some (.int k):=rfl
  have eo:atI [D.int a,.int b,.int k,.bl o] 3=some (.bl o):=rfl
  unfold m_q20 g_q20
  cases o with
  | true=>simp [dT4,ix2,ea,eb,ek,eo,lf]
  | false=>
    by_cases h:a < b
    · simp [dT4,ix2,ea,eb,ek,eo,lf,h]
    · simp [dT4,ix2,ea,eb,ek,eo,lf,h]
noncomputable def okJ (m:Nat) (kvs:List (List Key×D)):Prop:=kvs.length≤m∧∀ kv∈kvs,∃ ps:List (Int×Int),kv.2=.tup (ps.map dP)∧ps.length≤m
theorem sortOk_P (ts:List (Int×Int)) (h:ts.length < 64):sortOk (ts.map dP)=true:=by
  unfold sortOk
  simp only [Bool.and_eq_true,decide_eq_true_eq,List.all_eq_true,List.length_map]
  refine ⟨⟨⟨⟨h,?_⟩,?_⟩,?_⟩,?_⟩
  · intro x hx; obtain ⟨t,_,rfl⟩:=List.mem_map.mp hx; rfl
  · intro x hx y hy; obtain ⟨t,_,rfl⟩:=List.mem_map.mp hx; obtain ⟨u,_,rfl⟩:=List.mem_map.mp hy; rfl
  · intro x hx; obtain ⟨t,_,rfl⟩:=List.mem_map.mp hx; rfl
  · intro x hx; obtain ⟨t,_,rfl⟩:=List.mem_map.mp hx; rfl
noncomputable def unP:D→Int×Int
  | .tup [.int a,.int b]=>(a,b)
  | _=>(0,0)
theorem valD_mem {κ:Type} [DecidableEq κ] {kvs:List (κ×D)} {k:κ} {d:D} (h:valD kvs k=some d):∃ kv∈kvs,kv.2=d:=by
  unfold valD at h
  cases q:kvs.find? fun kv=>decide (kv.1=k) with
  | none=>rw [q] at h; cases h
  | some kv=>rw [q] at h; cases h; exact ⟨kv,List.mem_of_find?_eq_some q,rfl⟩
theorem okJ_put {m:Nat} {kvs:List (List Key×D)} (h:okJ m kvs) (k:List Key) (us:List (Int×Int)) (hu:us.length≤m + 1):okJ (m + 1) (putD kvs k (.tup (us.map dP))):=by
  refine ⟨Nat.le_trans (putD_len ..) (Nat.succ_le_succ h.1),fun kv hkv=>?_⟩
  unfold putD at hkv
  split at hkv
  · obtain ⟨kv',h1,rfl⟩:=List.mem_map.mp hkv
    split
    · exact ⟨us,rfl,hu⟩
    · obtain ⟨ps,e,l⟩:=h.2 kv' h1
      exact ⟨ps,e,by omega⟩
  · rcases List.mem_append.mp hkv with h1 | h1
    · obtain ⟨ps,e,l⟩:=h.2 kv h1
      exact ⟨ps,e,by omega⟩
    · rw [List.mem_singleton.mp h1]
      exact ⟨us,rfl,hu⟩
theorem dPutT_ap {j:Nat} {fk fv:DF→Option D} {ρ:DF}:dPutT j fk fv ρ=match ρ[j]? with
  | some (some (.own (.dT kvs) t))=>(fv ρ).bind fun v=>(fk ρ).bind fun y=>(keyT y).bind fun k=>if kvs.length < 16777216 then some (.nx (ρ.set j (some (.own (.dT (putD kvs k v)) t)))) else none
  | _=>none:=rfl
theorem dctGet2_ap {fd fk fx:DF→Option D} {ρ:DF}:dctGet2 fd fk fx ρ=match fd ρ with
  | some (.dT kvs)=>(fk ρ).bind fun y=>(keyT y).bind fun k=>(fx ρ).map fun x=>(valD kvs k).getD x
  | _=>none:=rfl
theorem put_ok (C:Addr) (m:Nat) (kvs:List (List Key×D)) (a b k f:Int) (hm:m≤50) (h:okJ m kvs):∃ kvs',mM_q21 C (.dT kvs) [.v (.tup [.int a,.int b]),.v (.tup [.int k,.int f])]=some (.dT kvs',.non)∧okJ (m + 1) kvs':=by
  have hv:∃ ps:List (Int×Int),(valD kvs [.inl a,.inl b]).getD (.tup [])=.tup (ps.map dP)∧ps.length≤m:=by
    cases q:valD kvs [.inl a,.inl b] with
    | none=>exact ⟨[],rfl,Nat.zero_le _⟩
    | some d=>
      obtain ⟨kv,hkv,e⟩:=valD_mem q
      obtain ⟨ps,e',l⟩:=h.2 kv hkv
      exact ⟨ps,e.symm.trans e',l⟩
  obtain ⟨ps,hg,pl⟩:=hv
  obtain ⟨us,eu,up⟩:=perm_map_inv dP unP (fun _=>rfl) (sortD_perm ((ps++[(k,f)]).map dP))
  have ha:addA (.tup (ps.map dP)) (.tup [.tup [.int k,.int f]])=some (.tup ((ps++[(k,f)]).map dP)):=by
    rw [List.map_append]
    exact if_pos (by rw [List.length_map]; show ps.length + 1≤_; omega)
  have hso:=sortOk_P (ps++[(k,f)]) (by rw [List.length_append,List.length_singleton]; omega)
  refine ⟨putD kvs [.inl a,.inl b] (.tup (us.map dP)),mMof_eq rfl rfl fun ad=>⟨.nx [some (.own (.dT (putD kvs [.inl a,.inl b] (.tup (us.map dP)))) (some ad)),some (.v (.tup [.int a,.int b])),some (.v (.tup [.int k,.int f]))],?_,rfl,rfl⟩,okJ_put h _ us (by rw [up.length_eq,List.length_append,List.length_singleton]; omega)⟩
  have hkl:kvs.length < 16777216:=by have:=h.1; omega
  generalize (ps++[(k,f)]).map dP=L at *
  generalize ps.map dP=L0 at *
  unfold g_q21
  simp [dPutT_ap,dctGet2_ap,keyT,keysOf,dKey,hg,ha,sortL_ap,hso,eu,tupD,hkl]
theorem joins_ok (C:Addr) (ts:List T4) (hl:ts.length≤12):∃ kvs,m_q5 C [.v (.lst (ts.map dT4))]=some (.own (.dT kvs) none):=by
  have hM:∀ (m:Nat) (kvs:List (List Key×D)) (a b k f:Int),m≤50→okJ m kvs→∃ kvs',mM_q21 C (.dT kvs) [.v (.tup [.int a,.int b]),.v (.tup [.int k,.int f])]=some (.dT kvs',.non)∧okJ (m + 1) kvs':=put_ok C
  unfold m_q5 g_q5
  generalize mM_q21 C=M at hM ⊢
  obtain ⟨z,e,kvs,y2,y3,y4,y5,rfl,hk⟩:=forD_ix (st:=setT [2,3,4,5]) (body:=(dSeq (dMcall K0 1 M (aV (asT (lcons (getV 2) (lcons (getV 3) lnil))) (aV (asT (lcons (getV 4) (lcons (ifV (asB (getV 5)) (fun _=>some (.int 1)) (fun _=>some (.int 0))) lnil))) (fun _=>some []))))
    (dMcall K0 1 M (aV (asT (lcons (getV 3) (lcons (getV 2) lnil))) (aV (asT (lcons (getV 4) (lcons (ifV (asB (getV 5)) (fun _=>some (.int 2)) (fun _=>some (.int 0))) lnil))) (fun _=>some []))))))
    (fun j ρ=>∃ (kvs:List (List Key×D)) (x2 x3 x4 x5:Option DV),ρ=[some (.v (.lst (ts.map dT4))),some (.own (.dT kvs) none),x2,x3,x4,x5]∧okJ (2 * j) kvs) (ts.map dT4) 0
    [some (.v (.lst (ts.map dT4))),some (.own (.dT []) none),none,none,none,none] ⟨[],_,_,_,_,rfl,Nat.le_refl _,fun _ h=>by cases h⟩ (by
      rintro j d _ hj ⟨kvs,x2,x3,x4,x5,rfl,hk⟩
      have hlt:j < ts.length:=by have:=(List.getElem?_eq_some_iff.mp hj).1; rwa [List.length_map] at this
      obtain ⟨⟨a,b,k,o⟩,_,rfl⟩:=List.mem_map.mp (List.mem_of_getElem? hj)
      obtain ⟨kvs1,e1,h1⟩:=hM (2 * (0 + j)) kvs a b k (if o=true then 1 else 0) (by omega) hk
      obtain ⟨kvs2,e2,h2⟩:=hM (2 * (0 + j) + 1) kvs1 b a k (if o=true then 2 else 0) (by omega) h1
      refine ⟨[some (.v (.lst (ts.map dT4))),some (.own (.dT kvs) none),some (.v (.int a)),some (.v (.int b)),some (.v (.int k)),some (.v (.bl o))],rfl,[some (.v (.lst (ts.map dT4))),some (.own (.dT kvs2) none),some (.v (.int a)),some (.v (.int b)),some (.v (.int k)),some (.v (.bl o))],?_,kvs2,_,_,_,_,rfl,by rwa [show 2 * (0 + j + 1)=2 * (0 + j) + 1 + 1 by omega]⟩
      cases o with
      | true=>
        simp only [if_true] at e1 e2
        simp [dMcall,tMcall,allV,e1,e2]
      | false=>
        simp at e1 e2
        simp [dMcall,tMcall,allV,e1,e2])
  refine ⟨kvs,?_⟩
  rw [mOf_1]
  have s0:dSetO 1 (fun _=>some (.dT [])) (startD 6 1 [.v (.lst (ts.map dT4))])=some (.nx [some (.v (.lst (ts.map dT4))),some (.own (.dT []) none),none,none,none,none]):=rfl
  rw [dSeq_nx s0,dSeq_nx (dFor_nx (ds:=ts.map dT4) rfl e)]
  rfl
noncomputable def wFs (ks:List Str) (T J:D):List (Str×D):=[("kinds",.lst (ks.map .str)),("ties",T),("joins",J)]
theorem n1:¬ (("kinds":Str) = "ties"):=by decide +kernel
theorem n2:¬ (("kinds":Str) = "joins"):=by decide +kernel
theorem n3:¬ (("ties":Str) = "joins"):=by decide +kernel
theorem b1:(("ties":Str) == "kinds")=false:=by decide +kernel
theorem b2:(("size":Str) == "kinds")=false:=by decide +kernel
theorem b3:(("size":Str) == "ties")=false:=by decide +kernel
theorem b4:(("size":Str) == "joins")=false:=by decide +kernel
theorem fldC_in {C:Addr} {fs:List (Str×D)} {n:Str}:fldC C n (.ins C fs)=fs.lookup n:=if_pos rfl
theorem fld_kinds (C:Addr) (ks:List Str) (T J:D):fldC C "kinds" (.ins C (wFs ks T J))=some (.lst (ks.map .str)):=by
  rw [fldC_in]
  unfold wFs
  simp
theorem fld_ties (C:Addr) (ks:List Str) (T J:D):fldC C "ties" (.ins C (wFs ks T J))=some T:=by
  rw [fldC_in]
  unfold wFs
  simp [List.lookup,b1]
theorem lk_size (ks:List Str) (T J:D):(wFs ks T J).lookup ("size":Str)=none:=by
  unfold wFs
  simp [List.lookup,b2,b3,b4]
theorem dSetF_ap {C:Addr} {i:Nat} {n:Str} {fv:DF→Option D} {ρ:DF}:dSetF C i n fv ρ=match ρ[i]? with
  | some (some (.own (.ins C' fs) t))=>if C'=C then (fv ρ).bind fun d=>if fs.length < 1000 then some (.nx (ρ.set i (some (.own (.ins C (putFD n d fs)) t)))) else none else none
  | _=>none:=rfl
noncomputable def srt (ts:List T4):List D:=sortD ((ts.map lf).map dT4)
theorem cmpOks_map {α:Type} (f:α→D) (h:∀ x y,cmpOk (f x) (f y)=true):∀ a b:List α,cmpOks (a.map f) (b.map f)=true
  | [],_=>rfl
  | _::_,[]=>rfl
  | x::a,y::b=>by
    rw [List.map_cons,List.map_cons]
    show (cmpOk (f x) (f y)&&cmpOks (a.map f) (b.map f))=true
    rw [cmpOks_map f h a b,h]
    rfl
theorem eqd_refl {α:Type} (f:α→D) (h:∀ x y,cmpOk (f x) (f y)=true) (a:List α):eqd (.lst (a.map f)) (.lst (a.map f))=true:=(eqds_iff _ _ (cmpOks_map f h a a)).mpr rfl
theorem okN_K {n:Int} {ks:List Str} (h:okK n ks):okN 30 (.lst (ks.map .str))=true:=by
  show (ks.map D.str).all (okN 29)=true
  rw [List.all_eq_true]
  intro x hx
  obtain ⟨k,hk,rfl⟩:=List.mem_map.mp hx
  show PyData.strOk k=true
  unfold PyData.strOk
  rw [← Array.all_toList,List.all_eq_true]
  intro c hc
  have:=(h.2 k hk).2.2 c hc
  exact decide_eq_true (by omega)
theorem eqD_of {x y:D} (hx:okN 30 x=true) (hy:okN 30 y=true):eqD x y=some (.bl (eqd x y)):=if_pos (by rw [hx,hy]; rfl)
theorem neD_of {x y:D} (hx:okN 30 x=true) (hy:okN 30 y=true):neD x y=some (.bl (!eqd x y)):=if_pos (by rw [hx,hy]; rfl)
theorem whole_ok (C:Addr) (i:Int):m_q17 C [.v (.int i)]=some (.v (.bl true)):=rfl
theorem okN_t (t:T4):okN 30 (dT4 t)=true:=rfl
theorem eqD_t (t:T4):eqD (dT4 t) (dT4 t)=some (.bl true):=by
  rw [eqD_of (okN_t t) (okN_t t)]
  have h:eqd (dT4 t) (dT4 t)=true:=(eqd_iff _ _ rfl).mpr rfl
  rw [h]
theorem tie_is_ok (C:Addr) (t:T4):m_q14 C [.v (dT4 t),.v (dT4 t)]=some (.v (.bl true)):=by
  have e:=eqD_t t
  have hw:=whole_ok C
  unfold m_q14 g_q14
  generalize m_q17 C=W at hw ⊢
  have i0:ixD (dT4 t) (.int 0)=some (.int t.1):=rfl
  have i1:ixD (dT4 t) (.int 1)=some (.int t.2.1):=rfl
  have i2:ixD (dT4 t) (.int 2)=some (.int t.2.2.1):=rfl
  have i3:ixD (dT4 t) (.int 3)=some (.bl t.2.2.2):=rfl
  have hl:lenD (dT4 t)=some (.int 4):=rfl
  have ht:isTD "tuple" (dT4 t)=some (.bl true):=rfl
  have hb:∀ b,isTD "bool" (.bl b)=some (.bl true):=fun _=>rfl
  generalize dT4 t=d at *
  simp [i0,i1,i2,i3,hl,ht,hb,hw,e]
theorem srt_len (ts:List T4):(srt ts).length=ts.length:=by
  unfold srt
  obtain ⟨us,e,p⟩:=sort_T4 (ts.map lf)
  rw [e,List.length_map,p.length_eq,List.length_map]
theorem srt_us (ts:List T4):∃ us:List T4,srt ts=us.map dT4∧us.Perm (ts.map lf):=sort_T4 (ts.map lf)
noncomputable abbrev wiB1:DF→Option RES:=(dIf (notT (asB (d1 (isTD "str") (getN 3)))) (dRet (fun _=>some (.bl false))) dNx)
noncomputable abbrev wiB2 (Ti:List DV→Option DV):DF→Option RES:=(dIf (notT (asB (callV Ti (aB 4 (aB 5 (fun _=>some [])))))) (dRet (fun _=>some (.bl false))) dNx)
theorem wi_1 (a b c:DV) (ks:List Str):∃ x,forD (setV 3) wiB1 (ks.map .str) [some a,some b,some c,none,none,none]=some (.nx [some a,some b,some c,x,none,none]):=by
  obtain ⟨ρ,e,x,rfl⟩:=forD_inv (st:=setV 3) (body:=wiB1) (ds:=ks.map D.str) (ρ:=[some a,some b,some c,none,none,none]) (fun ρ=>∃ x,ρ=[some a,some b,some c,x,none,none]) ⟨none,rfl⟩ (fun d hd ρ ⟨x,hx⟩=>by
    obtain ⟨k,_,rfl⟩:=List.mem_map.mp hd
    subst hx
    exact ⟨_,rfl,_,rfl,_,rfl⟩)
  exact ⟨x,e⟩
theorem wi_2 (Ti:List DV→Option DV) (hT:∀ t:T4,Ti [.v (dT4 t),.v (dT4 t)]=some (.v (.bl true))) (a b c:DV) (x:Option DV) (us:List T4):∃ y z,forD (setT [4,5]) (wiB2 Ti) (zipL (us.map dT4) (us.map dT4)) [some a,some b,some c,x,none,none]=some (.nx [some a,some b,some c,x,y,z]):=by
  obtain ⟨ρ,e,y,z,rfl⟩:=forD_inv (st:=setT [4,5]) (body:=wiB2 Ti) (ds:=zipL (us.map dT4) (us.map dT4)) (ρ:=[some a,some b,some c,x,none,none]) (fun ρ=>∃ y z,ρ=[some a,some b,some c,x,y,z]) ⟨none,none,rfl⟩ (fun d hd ρ ⟨y,z,hx⟩=>by
    obtain ⟨i,hi⟩:=List.mem_iff_getElem?.mp hd
    obtain ⟨u,v,h1,h2,rfl⟩:=zipL_get hi
    rw [h1] at h2
    cases h2
    rw [List.getElem?_map] at h1
    cases q:us[i]? with
    | none=>rw [q] at h1; cases h1
    | some t=>
      rw [q] at h1
      cases h1
      subst hx
      refine ⟨[some a,some b,some c,x,some (.v (dT4 t)),some (.v (dT4 t))],rfl,[some a,some b,some c,x,some (.v (dT4 t)),some (.v (dT4 t))],?_,some (.v (dT4 t)),some (.v (dT4 t)),rfl⟩
      have:=hT t
      generalize dT4 t=d at *
      simp [this])
  exact ⟨y,z,e⟩
theorem web_is_ok (C:Addr) (ks:List Str) (ts us:List T4) (J:D) (n:Int) (hk:okK n ks) (hu:us.length≤12) (he:srt us=srt ts) :
    m_q16 C [.v (.ins C (wFs ks (.lst (srt ts)) J)),.v (.lst (ks.map .str)),.v (.lst (us.map dT4))]=some (.v (.bl true)):=by
  have hT:=tie_is_ok C
  have hp:m_q13 C [.v (.lst (us.map dT4))]=some (.own (.lst (srt ts)) none):=by rw [← he]; exact plain_ok C us hu
  have fk:=fld_kinds C ks (.lst (srt ts)) J
  have ft:=fld_ties C ks (.lst (srt ts)) J
  have l1:(srt ts).length=us.length:=by rw [← he,srt_len]
  obtain ⟨vs,ev,_⟩:=srt_us ts
  obtain ⟨x,e1⟩:=wi_1 (.v (.ins C (wFs ks (.lst (srt ts)) J))) (.v (.lst (ks.map .str))) (.v (.lst (us.map dT4))) ks
  obtain ⟨y,z,e2⟩:=wi_2 (m_q14 C) hT (.v (.ins C (wFs ks (.lst (srt ts)) J))) (.v (.lst (ks.map .str))) (.v (.lst (us.map dT4))) x vs
  rw [← ev] at e2
  have nk:neD (.lst (ks.map D.str)) (.lst (ks.map D.str))=some (.bl false):=by rw [neD_of (okN_K hk) (okN_K hk),eqd_refl D.str (fun _ _=>rfl)]; rfl
  have nl:neD (.int ((srt ts).length:Int)) (.int ((us.map dT4).length:Int))=some (.bl false):=by rw [l1,List.length_map,neD_int,decide_eq_true rfl]; rfl
  have hI:isCD C (.ins C (wFs ks (.lst (srt ts)) J))=some (.bl true):=if_pos rfl
  have hL:∀ l,isTD "list" (.lst l)=some (.bl true):=fun _=>rfl
  have hz:(srt ts).length=(srt ts).length:=rfl
  unfold m_q16 g_q16
  generalize m_q14 C=Ti at *
  generalize m_q13 C=Pl at *
  generalize wFs ks (.lst (srt ts)) J=F at *
  generalize srt ts=S at *
  generalize ks.map D.str=A1 at *
  generalize us.map dT4=A2 at *
  rw [mOf_3,dSeq_nx (ρ':=[some (.v (.ins C F)),some (.v (.lst A1)),some (.v (.lst A2)),none,none,none]) (by simp [hI,fk,ft,hL]),
    dSeq_nx (ρ':=[some (.v (.ins C F)),some (.v (.lst A1)),some (.v (.lst A2)),none,none,none]) (by simp [fk,ft,nl,nk]),
    dSeq_nx (dFor_nx (by simp [fk]) e1),dSeq_nx (dFor_nx (by simp [zipOf,ft,hp]) e2)]
  rfl
noncomputable def bads:List Str:=["", "abcd", "A", "a1", "a b", "-", "zzzz", "aB", "{a", "~"]
theorem bad_repr:∀ x∈bads,(PySem.reprText x).length≤1000:=by decide +kernel
theorem occ_c:∀ c:Fin 128,(Builtin.Str.occurrences abc ⟨#[c.val]⟩ 0 abc.length 1).isEmpty=!(decide (97≤c.val)&&decide (c.val≤122)):=by decide +kernel
theorem nis_c {c:Nat} (h:c < 128):nisD (.str ⟨#[c]⟩) (.str abc)=some (.bl (!(decide (97≤c)&&decide (c≤122)))):=congrArg (fun b=>some (D.bl b)) (occ_c ⟨c,h⟩)
noncomputable def shW (x:Str):Prop:=x.cps.size≤4∧∀ c∈x.cps.toList,c < 128
theorem bad_sh:∀ x∈bads,x.cps.size≤4∧(x.cps.toList.all fun c=>decide (c < 128))=true:=by decide +kernel
noncomputable def wordB (x:Str):Bool:=(x.cps.toList.all fun c=>decide (97≤c)&&decide (c≤122))&&(decide (1≤x.cps.size)&&decide (x.cps.size≤3))
noncomputable def letB (c:Nat):Bool:=decide (97≤c)&&decide (c≤122)
theorem le_a (c:Nat):leA (.str "a") (.str ⟨#[c]⟩)=some (.bl (decide (97≤c))):=by
  show some (D.bl (!decide ([c] < [97])))=_
  refine congrArg (fun b=>some (D.bl b)) ?_
  by_cases h:97≤c
  · have:¬ ([c] < [97]):=fun z=>by rcases List.cons_lt_cons_iff.mp z with z | ⟨_,z⟩; omega; exact absurd z (List.not_lt_nil _)
    rw [decide_eq_false this,decide_eq_true h]; rfl
  · have:[c] < [97]:=List.cons_lt_cons_iff.mpr (.inl (by omega))
    rw [decide_eq_true this,decide_eq_false h]; rfl
theorem le_z (c:Nat):leA (.str ⟨#[c]⟩) (.str "z")=some (.bl (decide (c≤122))):=by
  show some (D.bl (!decide ([122] < [c])))=_
  refine congrArg (fun b=>some (D.bl b)) ?_
  by_cases h:c≤122
  · have:¬ ([122] < [c]):=fun z=>by rcases List.cons_lt_cons_iff.mp z with z | ⟨_,z⟩; omega; exact absurd z (List.not_lt_nil _)
    rw [decide_eq_false this,decide_eq_true h]; rfl
  · have:[122] < [c]:=List.cons_lt_cons_iff.mpr (.inl (by omega))
    rw [decide_eq_true this,decide_eq_false h]; rfl
theorem wordB_eq (x:Str):wordB x=(x.cps.toList.all letB&&(decide (1≤x.cps.size)&&decide (x.cps.size≤3))):=rfl
theorem all_bl (l:List Nat) (f:Nat→Bool):allD (.lst (l.map fun c=>D.bl (f c)))=some (.bl (l.all f)):=by
  have a1:((l.map fun c=>D.bl (f c)).all isBl)=true:=by simp [isBl]
  have a2:((l.map fun c=>D.bl (f c)).all trD)=l.all f:=by
    rw [List.all_map]
    rfl
  show (if ((l.map fun c=>D.bl (f c)).all isBl)=true then some (D.bl ((l.map fun c=>D.bl (f c)).all trD)) else none)=_
  rw [if_pos a1,a2]
theorem place_w (C:Addr) (x:Str) (h:x.cps.size≤4):m_q2 C [.v (.str x)]=some (.v (.bl (wordB x))):=by
  have e1:mapD (setV 0) dYes (chD leA leA (fun _=>some (.str "a")) (getN 0) (fun _=>some (.str "z"))) [none] (L2.signs x)=some (x.cps.toList.map fun c=>D.bl (letB c)):=by
    unfold L2.signs
    refine mapD_map (fun c=>D.str ⟨#[c]⟩) (fun c=>D.bl (letB c)) _ fun c hm=>?_
    refine ⟨[some (.v (.str ⟨#[c]⟩))],rfl,rfl,?_⟩
    unfold letB
    by_cases q:97≤c
    · simp [le_a,le_z,q]
    · simp [le_a,q]
  have hsz:(L2.signs x).length≤16777216:=by unfold L2.signs; rw [List.length_map,Array.length_toList]; omega
  have e2:=all_bl x.cps.toList letB
  have e3:lenD (.str x)=some (.int (x.cps.size:Int)):=if_pos (show x.cps.size≤16777216 by omega)
  have d1':dComp 1 [] (strOf (getV 0)) (setV 0) dYes (chD leA leA (fun _=>some (.str "a")) (getN 0) (fun _=>some (.str "z"))) [some (.v (.str x)),none]=some (x.cps.toList.map fun c=>D.bl (letB c)):=by
    have:strOf (getV 0) [some (.v (.str x)),none]=some (L2.signs x):=rfl
    rw [dComp_ap,this,Option.bind_some,if_pos hsz]
    exact e1
  rw [wordB_eq]
  unfold m_q2 g_q2
  have c1:(decide (1≤x.cps.size))=decide ((1:Int)≤(x.cps.size:Int)):=decide_eq_decide.mpr (by omega)
  have c3:(decide (x.cps.size≤3))=decide ((x.cps.size:Int)≤3):=decide_eq_decide.mpr (by omega)
  rw [c1,c3]
  generalize (chD leA leA (fun _=>some (.str "a")) (getN 0) (fun _=>some (.str "z")))=E' at d1' ⊢
  generalize (x.cps.toList.map fun c=>D.bl (letB c))=L at *
  generalize x.cps.toList.all letB=b at *
  generalize (x.cps.size:Int)=n at *
  cases b with
  | false=>simp [d1',e2]
  | true=>
    by_cases q:(1:Int)≤n
    · simp [d1',e2,e3,q]
    · simp [d1',e2,e3,q]
noncomputable abbrev wiW:DF→Option RES:=(dIf (asB (d2 nisD (getN 1) (fun _=>some (.str abc)))) (dRet (fun _=>some (.bl false))) dNx)
theorem word_for (x:DV):∀ (cs:List Nat) (y:Option DV),(∀ c∈cs,c < 128)→(cs.all letB=true∧∃ y',forD (setV 1) wiW (cs.map fun c=>D.str ⟨#[c]⟩) [some x,y]=some (.nx [some x,y']))∨(cs.all letB=false∧∃ ρ,forD (setV 1) wiW (cs.map fun c=>D.str ⟨#[c]⟩) [some x,y]=some (.rt (.v (.bl false)) ρ))
  | [],y,_=>.inl ⟨rfl,y,rfl⟩
  | c::cs,y,h=>by
    have hn:=nis_c (h c List.mem_cons_self)
    have hl:letB c=(decide (97≤c)&&decide (c≤122)):=rfl
    rw [← hl] at hn
    rw [List.all_cons]
    cases q:letB c with
    | false=>
      rw [q] at hn
      refine .inr ⟨rfl,[some x,some (.v (.str ⟨#[c]⟩))],?_⟩
      rw [List.map_cons,forD]
      simp [hn]
    | true=>
      rw [q] at hn
      have step:∀ y,forD (setV 1) wiW ((c::cs).map fun c=>D.str ⟨#[c]⟩) [some x,y]=forD (setV 1) wiW (cs.map fun c=>D.str ⟨#[c]⟩) [some x,some (.v (.str ⟨#[c]⟩))]:=fun y=>by
        rw [List.map_cons,forD]
        simp [hn]
      rw [step y,Bool.true_and]
      exact word_for x cs _ fun d hd=>h d (List.mem_cons_of_mem _ hd)
theorem word_w (C:Addr) (x:Str) (h:shW x):m_q19 C [.v (.str x)]=some (.v (.bl (wordB x))):=by
  have e3:lenD (.str x)=some (.int (x.cps.size:Int)):=if_pos (show x.cps.size≤16777216 by have:=h.1; omega)
  have c1:(decide (1≤x.cps.size))=decide ((1:Int)≤(x.cps.size:Int)):=decide_eq_decide.mpr (by omega)
  have c3:(decide (x.cps.size≤3))=decide ((x.cps.size:Int)≤3):=decide_eq_decide.mpr (by omega)
  unfold m_q19 g_q19
  rw [mOf_1,wordB_eq,c1,c3]
  rcases word_for (.v (.str x)) x.cps.toList none h.2 with ⟨b,y',e⟩ | ⟨b,ρ,e⟩
  · rw [b,dSeq_nx (dFor_nx (show strOf (getV 0) (startD 2 1 [.v (.str x)])=some (x.cps.toList.map fun c=>D.str ⟨#[c]⟩) from rfl) e)]
    generalize (x.cps.size:Int)=n at *
    by_cases q:(1:Int)≤n
    · simp [e3,q]
    · simp [e3,q]
  · rw [b,dSeq_rt (dFor_nx (show strOf (getV 0) (startD 2 1 [.v (.str x)])=some (x.cps.toList.map fun c=>D.str ⟨#[c]⟩) from rfl) e)]
    rfl
noncomputable def rgB (n x:Int):Bool:=decide (0≤x∧x < n)
noncomputable def tieB (n:Int) (t:T4):Bool:=(rgB n t.1&&rgB n t.2.1)&&(!decide (t.1=t.2.1)&&rgB 1000000000000000000000000000000 t.2.2.1)
theorem ch_rg (p n:Int) (fb fc:DF→Option D) (ρ:DF) (hb:fb ρ=some (.int p)) (hc:fc ρ=some (.int n)):chD leA ltI (fun _=>some (.int 0)) fb fc ρ=some (.bl (rgB n p)):=by
  unfold rgB
  rw [chD_ap,hb,hc]
  by_cases h:0≤p
  · simp [h]
  · simp [h]
theorem tieK_w (C:Addr) (k:Int):m_q4 C [.v (.int k)]=some (.v (.bl (rgB 1000000000000000000000000000000 k))):=by
  unfold m_q4 g_q4
  rw [mOf_1,dRet_ap,ch_rg k 1000000000000000000000000000000 _ _ _ rfl rfl]
  rfl
theorem tie_w (C:Addr) (t:T4) (n:Int):m_q3 C [.v (dT4 t),.v (.int n)]=some (.v (.bl (tieB n t))):=by
  have i0:ixD (dT4 t) (.int 0)=some (.int t.1):=rfl
  have i1:ixD (dT4 t) (.int 1)=some (.int t.2.1):=rfl
  have i2:ixD (dT4 t) (.int 2)=some (.int t.2.2.1):=rfl
  have hk:=tieK_w C t.2.2.1
  unfold tieB
  unfold m_q3 g_q3
  generalize m_q4 C=M at hk ⊢
  generalize dT4 t=d at *
  have e1:chD leA ltI (fun _=>some (.int 0)) (d2 ixD (getR 0) (fun _=>some (.int 0))) (getN 1) [some (.v d),some (.v (.int n)),none]=some (.bl (rgB n t.1)):=ch_rg t.1 n _ _ _ (by simp [i0]) rfl
  have e2:chD leA ltI (fun _=>some (.int 0)) (d2 ixD (getR 0) (fun _=>some (.int 1))) (getN 1) [some (.v d),some (.v (.int n)),none]=some (.bl (rgB n t.2.1)):=ch_rg t.2.1 n _ _ _ (by simp [i1]) rfl
  generalize (chD leA ltI (fun _=>some (.int 0)) (d2 ixD (getR 0) (fun _=>some (.int 0))) (getN 1))=Q1 at e1 ⊢
  generalize (chD leA ltI (fun _=>some (.int 0)) (d2 ixD (getR 0) (fun _=>some (.int 1))) (getN 1))=Q2 at e2 ⊢
  generalize rgB n t.1=r1 at *
  generalize rgB n t.2.1=r2 at *
  generalize rgB 1000000000000000000000000000000 t.2.2.1=r3 at *
  have e3:andV Q1 Q2 [some (.v d),some (.v (.int n)),none]=some (.bl (r1&&r2)):=by cases r1 <;> simp [e1,e2]
  rw [mOf_2,dSeq_nx (ρ':=[some (.v d),some (.v (.int n)),some (.v (.bl (r1&&r2)))]) (by
    show (dSet 2 (andV Q1 Q2)) [some (.v d),some (.v (.int n)),none]=_
    rw [dSet_ap,e3]
    rfl)]
  generalize (r1&&r2)=r at *
  by_cases z:t.1=t.2.1
  · cases r <;> simp [i0,i1,z]
  · cases r <;> simp [i0,i1,i2,z,hk]
theorem forX_all {st:D→DF→Option DF} {body:DF→Option XR} {α:Type} (f:α→D) (p:α→Bool) (F:Option DV→DF) (k:Nat):∀ (as:List α) (y:Option DV),(∀ a∈as,∀ y,∃ ρ1,st (f a) (F y)=some ρ1∧(p a=true→body ρ1=some (.go (.nx (F (some (.v (f a)))))))∧(p a=false→body ρ1=some (.ex k)))→
    (as.all p=true∧∃ y',forX st body (as.map f) (F y)=some (.go (.nx (F y'))))∨(as.all p=false∧forX st body (as.map f) (F y)=some (.ex k))
  | [],y,_=>.inl ⟨rfl,y,rfl⟩
  | a::as,y,h=>by
    obtain ⟨ρ1,e1,ht,hf⟩:=h a List.mem_cons_self y
    rw [List.all_cons,List.map_cons]
    unfold forX
    rw [e1]
    cases q:p a with
    | false=>
      simp only [hf q]
      exact .inr ⟨by simp,by simp⟩
    | true=>
      simp only [ht q]
      rw [Bool.true_and]
      exact forX_all f p F k as _ fun b hb=>h b (List.mem_cons_of_mem _ hb)
theorem forR_all {st:D→DF→Option DF} {body:DF→Option RES} {α:Type} (f:α→D) (p:α→Bool) (I:DF→Prop) (x:DV):∀ (as:List α) (ρ:DF),I ρ→(∀ a∈as,∀ ρ,I ρ→∃ ρ1,st (f a) ρ=some ρ1∧(p a=true→∃ ρ',body ρ1=some (.nx ρ')∧I ρ')∧(p a=false→∃ ρ',body ρ1=some (.rt x ρ')))→
    (as.all p=true∧∃ ρ',forD st body (as.map f) ρ=some (.nx ρ')∧I ρ')∨(as.all p=false∧∃ ρ',forD st body (as.map f) ρ=some (.rt x ρ'))
  | [],ρ,hI,_=>.inl ⟨rfl,ρ,rfl,hI⟩
  | a::as,ρ,hI,h=>by
    obtain ⟨ρ1,e1,ht,hf⟩:=h a List.mem_cons_self ρ hI
    rw [List.all_cons,List.map_cons]
    unfold forD
    rw [e1]
    cases q:p a with
    | false=>
      obtain ⟨ρ',e2⟩:=hf q
      simp only [e2]
      exact .inr ⟨by simp,ρ',by simp⟩
    | true=>
      obtain ⟨ρ',e2,hI'⟩:=ht q
      simp only [e2]
      rw [Bool.true_and]
      exact forR_all f p I x as ρ' hI' fun b hb=>h b (List.mem_cons_of_mem _ hb)
noncomputable def idW (ks:List Str) (ts:List T4):Option Nat:=if ¬ (1≤ks.length∧ks.length≤7)∨12 < ts.length then some 0 else if ks.all wordB=false then some 1 else if ts.all (tieB (ks.length:Int))=false then some 2 else none
theorem xSeq_go {g h:DF→Option XR} {ρ ρ':DF} (e:g ρ=some (.go (.nx ρ'))):xSeq g h ρ=h ρ':=by unfold xSeq; rw [e]
theorem xSeq_ex {g h:DF→Option XR} {ρ:DF} {k:Nat} (e:g ρ=some (.ex k)):xSeq g h ρ=some (.ex k):=by unfold xSeq; rw [e]
theorem xIf_ap {c:DF→Option Bool} {g h:DF→Option XR} {ρ:DF}:xIf c g h ρ=(c ρ).bind fun b=>if b=true then g ρ else h ρ:=rfl
theorem xFor_of {it:DF→Option (List D)} {st:D→DF→Option DF} {g:DF→Option XR} {ρ:DF} {ds:List D} (h:it ρ=some ds):xFor it st g ρ=forX st g ds ρ:=by unfold xFor; rw [h]; rfl
theorem rx_ok (C:Addr) (ks:List Str) (ts:List T4) (hk:∀ x∈ks,x.cps.size≤4∧(wordB x=false→(PySem.reprText x).length≤1000)):rx_refuse_wrong C [.bor (.lst (ks.map .str)),.bor (.lst (ts.map dT4))]=idW ks ts:=by
  have hP:=fun x (h:x∈ks)=>place_w C x (hk x h).1
  have hT:=tie_w C
  have lk:((ks.map D.str).length:Int)=(ks.length:Int):=by rw [List.length_map]
  have lt:((ts.map dT4).length:Int)=(ts.length:Int):=by rw [List.length_map]
  unfold rx_refuse_wrong rzX idW
  rw [if_pos (show ([.bor (.lst (ks.map .str)),.bor (.lst (ts.map dT4))]:List DV).length=2 from rfl),show startD 4 2 [.bor (.lst (ks.map .str)),.bor (.lst (ts.map dT4))]=[some (.bor (.lst (ks.map .str))),some (.bor (.lst (ts.map dT4))),none,none] from rfl]
  generalize m_q2 C=Pl at hP ⊢
  generalize m_q3 C=Ti at hT ⊢
  by_cases h1:1≤ks.length∧ks.length≤7
  · have a1:(1:Int)≤(ks.length:Int):=by omega
    have a2:(ks.length:Int)≤7:=by omega
    rw [xSeq_go (ρ':=[some (.bor (.lst (ks.map .str))),some (.bor (.lst (ts.map dT4))),none,none]) (by simp [xIf_ap,lk,a1,a2,xNx])]
    by_cases h2:12 < ts.length
    · have b1:(12:Int) < (ts.length:Int):=by omega
      rw [xSeq_ex (k:=0) (by simp [xIf_ap,lt,b1,xEx]),if_pos (.inr h2)]
    · have b1:¬ (12:Int) < (ts.length:Int):=by omega
      rw [xSeq_go (ρ':=[some (.bor (.lst (ks.map .str))),some (.bor (.lst (ts.map dT4))),none,none]) (by simp [xIf_ap,lt,b1,xNx]),if_neg (fun z=>z.elim (fun z=>z h1) h2)]
      have f1:=forX_all (st:=setV 2) (body:=(xIf (notT (asB (callV Pl (aV (getV 2) (fun _=>some []))))) (xExF 2 " is no kind of a place" 1) xNx)) D.str wordB (fun y=>[some (.bor (.lst (ks.map .str))),some (.bor (.lst (ts.map dT4))),y,none]) 1 ks none (fun x hx y=>⟨[some (.bor (.lst (ks.map .str))),some (.bor (.lst (ts.map dT4))),some (.v (.str x)),none],rfl,fun q=>by
          have:=hP x hx
          rw [q] at this
          simp [xIf_ap,this,xNx],fun q=>by
          have:=hP x hx
          rw [q] at this
          have hl:=(hk x hx).2 q
          have hl2:(Str.length " is no kind of a place")≤1000:=by decide +kernel
          simp [xIf_ap,this,xExF,hl,hl2]⟩)
      rcases f1 with ⟨w,y',e⟩ | ⟨w,e⟩
      · rw [xSeq_go (by rw [xFor_of rfl]; exact e),w,if_neg (by decide)]
        have f2:=forX_all (st:=setV 3) (body:=(xIf (notT (asB (callV Ti (aB 3 (aV (d1 lenD (getN 0)) (fun _=>some [])))))) (xEx 2) xNx)) dT4 (tieB (ks.length:Int)) (fun y=>[some (.bor (.lst (ks.map .str))),some (.bor (.lst (ts.map dT4))),y',y]) 2 ts none (fun t _ y=>⟨[some (.bor (.lst (ks.map .str))),some (.bor (.lst (ts.map dT4))),y',some (.v (dT4 t))],rfl,fun q=>by
          have:=hT t (ks.length:Int)
          rw [q] at this
          simp [xIf_ap,lk,this,xNx],fun q=>by
          have:=hT t (ks.length:Int)
          rw [q] at this
          simp [xIf_ap,lk,this,xEx]⟩)
        rcases f2 with ⟨w2,y2,e2⟩ | ⟨w2,e2⟩
        · rw [xFor_of rfl,e2,w2,if_neg (by decide)]
        · rw [xFor_of rfl,e2,w2,if_pos rfl]
      · rw [xSeq_ex (by rw [xFor_of rfl]; exact e),w,if_pos rfl]
  · rw [if_pos (.inl h1)]
    have hc:chD leA leA (fun _=>some (.int 1)) (d1 lenD (getN 0)) (fun _=>some (.int 7)) [some (.bor (.lst (ks.map .str))),some (.bor (.lst (ts.map dT4))),none,none]=some (.bl false):=by
      by_cases a1:(1:Int)≤(ks.length:Int)
      · have a2:¬ (ks.length:Int)≤7:=fun z=>h1 ⟨by omega,by omega⟩
        simp [lk,a1,a2]
      · simp [lk,a1]
    rw [xSeq_ex (k:=0) (by rw [xIf_ap,notT_ap,asB_ap,hc]; rfl)]
noncomputable def toldD:Option Nat→List D
  | none=>[]
  | some k=>(bs3 k).map D.bl
noncomputable abbrev duF (K T:List D) (n:Int) (x3 x4 x5 x6:Option DV):DF:=[some (.v (.lst K)),some (.v (.lst T)),some (.v (.int n)),x3,x4,x5,x6]
theorem du_tie {K T:List D} {n:Int} (a b k:Int) (o:Bool) :
    (dIf (orT (asB (d2 eqD (getN 4) (getN 5))) (orT (notT (asB (chD leA ltI (fun _=>some (.int 0)) (getN 4) (getN 2)))) (orT (notT (asB (chD leA ltI (fun _=>some (.int 0)) (getN 5) (getN 2)))) (notT (asB (chD leA ltI (fun _=>some (.int 0)) (getN 3) (d2 powD (fun _=>some (.int 10)) (fun _=>some (.int 30))))))))) (dRetO (asL (lcons (fun _=>some (.bl false)) (lcons (fun _=>some (.bl false)) (lcons (fun _=>some (.bl true)) lnil))))) dNx) (duF K T n (some (.v (.int k))) (some (.v (.int a))) (some (.v (.int b))) (some (.v (.bl o))))
      = if tieB n (a,b,k,o)=true then some (.nx (duF K T n (some (.v (.int k))) (some (.v (.int a))) (some (.v (.int b))) (some (.v (.bl o))))) else some (.rt (.own (.lst [.bl false,.bl false,.bl true]) none) (duF K T n (some (.v (.int k))) (some (.v (.int a))) (some (.v (.int b))) (some (.v (.bl o))))):=by
  have e1:=ch_rg a n (getN 4) (getN 2) (duF K T n (some (.v (.int k))) (some (.v (.int a))) (some (.v (.int b))) (some (.v (.bl o)))) rfl rfl
  have e2:=ch_rg b n (getN 5) (getN 2) (duF K T n (some (.v (.int k))) (some (.v (.int a))) (some (.v (.int b))) (some (.v (.bl o)))) rfl rfl
  have e3:=ch_rg k 1000000000000000000000000000000 (getN 3) (d2 powD (fun _=>some (.int 10)) (fun _=>some (.int 30))) (duF K T n (some (.v (.int k))) (some (.v (.int a))) (some (.v (.int b))) (some (.v (.bl o)))) rfl rfl
  generalize (chD leA ltI (fun _=>some (.int 0)) (getN 4) (getN 2))=Q1 at e1 ⊢
  generalize (chD leA ltI (fun _=>some (.int 0)) (getN 5) (getN 2))=Q2 at e2 ⊢
  generalize (chD leA ltI (fun _=>some (.int 0)) (getN 3) (d2 powD (fun _=>some (.int 10)) (fun _=>some (.int 30))))=Q3 at e3 ⊢
  unfold tieB
  show _=if ((rgB n a&&rgB n b)&&(!decide (a=b)&&rgB 1000000000000000000000000000000 k))=true then _ else _
  unfold duF at *
  generalize rgB n a=r1 at *
  generalize rgB n b=r2 at *
  generalize rgB 1000000000000000000000000000000 k=r3 at *
  by_cases z:a=b
  · cases r1 <;> cases r2 <;> cases r3 <;> simp [z]
  · cases r1 <;> cases r2 <;> cases r3 <;> simp [z,e1,e2,e3]
theorem due_ok (C:Addr) (ks:List Str) (ts:List T4) (hk:∀ x∈ks,shW x):m_q10 C [.v (.lst (ks.map .str)),.v (.lst (ts.map dT4))]=some (.own (.lst (toldD (idW ks ts))) none):=by
  have hW:=fun x (h:x∈ks)=>word_w C x (hk x h)
  have lk:((ks.map D.str).length:Int)=(ks.length:Int):=by rw [List.length_map]
  have lt:((ts.map dT4).length:Int)=(ts.length:Int):=by rw [List.length_map]
  unfold m_q10 g_q10 idW
  generalize m_q19 C=Wo at hW ⊢
  rw [mOf_2,show startD 7 2 [.v (.lst (ks.map .str)),.v (.lst (ts.map dT4))]=[some (.v (.lst (ks.map .str))),some (.v (.lst (ts.map dT4))),none,none,none,none,none] from rfl,
    dSeq_nx (ρ':=duF (ks.map .str) (ts.map dT4) (ks.length:Int) none none none none) (by simp [duF])]
  by_cases h1:¬ (1≤ks.length∧ks.length≤7)∨12 < ts.length
  · rw [if_pos h1]
    have e:(dIf (orT (asB (d2 ltd (getN 2) (fun _=>some (.int 1)))) (orT (asB (d2 gtI (getR 2) (fun _=>some (.int 7)))) (asB (d2 gtI (d1 lenD (getN 1)) (fun _=>some (.int 12)))))) (dRetO (asL (lcons (fun _=>some (.bl true)) (lcons (fun _=>some (.bl false)) (lcons (fun _=>some (.bl false)) lnil))))) dNx) (duF (ks.map .str) (ts.map dT4) (ks.length:Int) none none none none)=some (.rt (.own (.lst [.bl true,.bl false,.bl false]) none) (duF (ks.map .str) (ts.map dT4) (ks.length:Int) none none none none)):=by
      by_cases q1:(ks.length:Int) < 1
      · simp [duF,q1]
      · by_cases q2:(7:Int) < (ks.length:Int)
        · simp [duF,q1,q2]
        · have q3:(12:Int) < (ts.length:Int):=by
            rcases h1 with z | z
            · exact absurd ⟨by omega,by omega⟩ z
            · omega
          simp [duF,q1,q2,q3]
    rw [dSeq_rt e]
    rfl
  · rw [if_neg h1]
    have q1:¬ (ks.length:Int) < 1:=fun z=>h1 (.inl fun y=>by omega)
    have q2:¬ (7:Int) < (ks.length:Int):=fun z=>h1 (.inl fun y=>by omega)
    have q3:¬ (12:Int) < (ts.length:Int):=fun z=>h1 (.inr (by omega))
    rw [dSeq_nx (ρ':=duF (ks.map .str) (ts.map dT4) (ks.length:Int) none none none none) (by simp [duF,q1,q2,q3])]
    have f1:=forR_all (st:=setV 3) (body:=(dIf (notT (asB (callV Wo (aV (getV 3) (fun _=>some []))))) (dRetO (asL (lcons (fun _=>some (.bl false)) (lcons (fun _=>some (.bl true)) (lcons (fun _=>some (.bl false)) lnil))))) dNx)) D.str wordB (fun ρ=>∃ x3,ρ=duF (ks.map .str) (ts.map dT4) (ks.length:Int) x3 none none none) (.own (.lst [.bl false,.bl true,.bl false]) none) ks (duF (ks.map .str) (ts.map dT4) (ks.length:Int) none none none none) ⟨none,rfl⟩ (by
      rintro x hx _ ⟨x3,rfl⟩
      refine ⟨duF (ks.map .str) (ts.map dT4) (ks.length:Int) (some (.v (.str x))) none none none,rfl,fun q=>⟨duF (ks.map .str) (ts.map dT4) (ks.length:Int) (some (.v (.str x))) none none none,?_,_,rfl⟩,fun q=>⟨duF (ks.map .str) (ts.map dT4) (ks.length:Int) (some (.v (.str x))) none none none,?_⟩⟩
      · have:=hW x hx
        rw [q] at this
        simp [this]
      · have:=hW x hx
        rw [q] at this
        simp [this])
    rcases f1 with ⟨w,ρ',e,x3,rfl⟩ | ⟨w,ρ',e⟩
    · rw [dSeq_nx (dFor_nx rfl e),w,if_neg (by decide)]
      have f2:=forR_all (st:=setT [4,5,3,6]) (body:=(dIf (orT (asB (d2 eqD (getN 4) (getN 5))) (orT (notT (asB (chD leA ltI (fun _=>some (.int 0)) (getN 4) (getN 2)))) (orT (notT (asB (chD leA ltI (fun _=>some (.int 0)) (getN 5) (getN 2)))) (notT (asB (chD leA ltI (fun _=>some (.int 0)) (getN 3) (d2 powD (fun _=>some (.int 10)) (fun _=>some (.int 30))))))))) (dRetO (asL (lcons (fun _=>some (.bl false)) (lcons (fun _=>some (.bl false)) (lcons (fun _=>some (.bl true)) lnil))))) dNx)) dT4 (tieB (ks.length:Int)) (fun ρ=>∃ x3 x4 x5 x6,ρ=duF (ks.map .str) (ts.map dT4) (ks.length:Int) x3 x4 x5 x6) (.own (.lst [.bl false,.bl false,.bl true]) none) ts (duF (ks.map .str) (ts.map dT4) (ks.length:Int) x3 none none none) ⟨_,_,_,_,rfl⟩ (by
        rintro ⟨a,b,k,o⟩ _ _ ⟨y3,y4,y5,y6,rfl⟩
        refine ⟨duF (ks.map .str) (ts.map dT4) (ks.length:Int) (some (.v (.int k))) (some (.v (.int a))) (some (.v (.int b))) (some (.v (.bl o))),rfl,fun q=>⟨_,(du_tie a b k o).trans (if_pos q),_,_,_,_,rfl⟩,fun q=>⟨_,(du_tie a b k o).trans (if_neg (by rw [q]; decide))⟩⟩)
      rcases f2 with ⟨w2,ρ2,e2,_⟩ | ⟨w2,ρ2,e2⟩
      · rw [dSeq_nx (dFor_nx rfl e2),w2,if_neg (by decide)]
        rfl
      · rw [dSeq_rt (dFor_nx rfl e2),w2,if_pos rfl]
        rfl
    · rw [dSeq_rt (dFor_nx rfl e),w,if_pos rfl]
      rfl
theorem refuse_okB (C:Addr) (ks:List Str) (ts:List T4) (n:Int) (hn:1≤n∧n≤7) (hk:okK n ks) (hs:okS n ts):m_q22 C [.bor (.lst (ks.map .str)),.bor (.lst (ts.map dT4))]=some (.v .non):=by
  have hP:=place_ok C
  have hT:∀ t,okT n t→m_q3 C [.v (dT4 t),.v (.int n)]=some (.v (.bl true)):=fun t h=>tie_ok C t n h
  unfold m_q22 g_q22
  generalize m_q2 C=P at hP ⊢
  generalize m_q3 C=T at hT ⊢
  have hkl:(ks.length:Int)=n:=hk.1
  have g1:1≤n:=hn.1
  have g2:n≤7:=hn.2
  have g3:¬ (12:Int) < (ts.length:Int):=by have:=hs.1; omega
  have q1:∀ G,(dSeq (dIf (notT (asB (chD leA leA (fun _=>some (.int 1)) (d1 lenD (getN 0)) (fun _=>some (.int 7))))) dNone dNx) (dSeq (dIf (asB (d2 gtI (d1 lenD (getN 1)) (fun _=>some (.int 12)))) dNone dNx) G)) (startD 4 2 [.bor (.lst (ks.map .str)),.bor (.lst (ts.map dT4))])=G [some (.bor (.lst (ks.map .str))),some (.bor (.lst (ts.map dT4))),none,none]:=by
    intro G
    simp [hkl,g1,g2,g3]
  obtain ⟨z1,e1,y2,rfl⟩:=forD_inv (st:=setV 2) (body:=(dIf (notT (asB (callV P (aV (getV 2) (fun _=>some []))))) dNone dNx)) (fun ρ=>∃ x2,ρ=[some (.bor (.lst (ks.map .str))),some (.bor (.lst (ts.map dT4))),x2,none]) (ds:=ks.map .str) (ρ:=[some (.bor (.lst (ks.map .str))),some (.bor (.lst (ts.map dT4))),none,none]) ⟨_,rfl⟩ (by
    rintro d hd _ ⟨x2,rfl⟩
    obtain ⟨k,hk',rfl⟩:=List.mem_map.mp hd
    have:=hP k (hk.2 k hk')
    refine ⟨[some (.bor (.lst (ks.map .str))),some (.bor (.lst (ts.map dT4))),some (.v (.str k)),none],rfl,[some (.bor (.lst (ks.map .str))),some (.bor (.lst (ts.map dT4))),some (.v (.str k)),none],?_,_,rfl⟩
    simp [this])
  obtain ⟨z2,e2,y3,rfl⟩:=forD_inv (st:=setV 3) (body:=(dIf (notT (asB (callV T (aB 3 (aV (d1 lenD (getN 0)) (fun _=>some [])))))) dNone dNx)) (fun ρ=>∃ x3,ρ=[some (.bor (.lst (ks.map .str))),some (.bor (.lst (ts.map dT4))),y2,x3]) (ds:=ts.map dT4) (ρ:=[some (.bor (.lst (ks.map .str))),some (.bor (.lst (ts.map dT4))),y2,none]) ⟨_,rfl⟩ (by
    rintro d hd _ ⟨x2,rfl⟩
    obtain ⟨k,hk',rfl⟩:=List.mem_map.mp hd
    have:=hT k (hs.2 k hk')
    refine ⟨[some (.bor (.lst (ks.map .str))),some (.bor (.lst (ts.map dT4))),y2,some (.v (dT4 k))],rfl,[some (.bor (.lst (ks.map .str))),some (.bor (.lst (ts.map dT4))),y2,some (.v (dT4 k))],?_,_,rfl⟩
    simp [hkl,this])
  rw [mOf_2,q1,dSeq_nx (dFor_nx (ds:=ks.map D.str) rfl e1),dFor_nx (ds:=ts.map dT4) rfl e2]
  rfl
theorem init_okB (C:Addr) (ks:List Str) (ts:List T4) (n:Int) (hn:1≤n∧n≤7) (hk:okK n ks) (hs:okS n ts):∃ J,mM_q0 C (.ins C []) [.bor (.lst (ks.map .str)),.bor (.lst (ts.map dT4))]=some (.ins C (wFs ks (.lst (srt ts)) J),.non):=by
  have hR:=refuse_okB C ks ts n hn hk hs
  have hL:=lesser_ok C
  obtain ⟨us,eu,up⟩:=sort_T4 (ts.map lf)
  obtain ⟨kvs,hJ⟩:=joins_ok C us (by rw [up.length_eq,List.length_map]; exact hs.1)
  have hso:=sortOk_T4 (ts.map lf) (by rw [List.length_map]; have:=hs.1; omega)
  refine ⟨.dT kvs,mMof_eq rfl rfl fun ad=>⟨.nx [some (.own (.ins C (wFs ks (.lst (srt ts)) (.dT kvs))) (some ad)),some (.bor (.lst (ks.map .str))),some (.bor (.lst (ts.map dT4)))],?_,rfl,rfl⟩⟩
  unfold g_q0
  generalize m_q22 C=R at hR ⊢
  generalize m_q20 C=L at hL ⊢
  generalize m_q5 C=J at hJ ⊢
  have hsr:srt ts=us.map dT4:=eu
  rw [hsr]
  have c1:mapD (setV 0) dYes (callV L (aV (getV 0) (fun _=>some []))) [none] (ts.map dT4)=some ((ts.map lf).map dT4):=by
    rw [List.map_map]
    refine mapD_map dT4 _ ts fun t _=>⟨[some (.v (dT4 t))],rfl,rfl,?_⟩
    simp [hL]
  have tl:ts.length≤16777216:=by have:=hs.1; omega
  generalize (callV L (aV (getV 0) (fun _=>some [])))=E at c1 ⊢
  generalize (ts.map lf).map dT4=X at *
  have hf:∀ fs:List (Str×D),fldC C "ties" (.ins C [("kinds",.lst (ks.map .str)),("ties",.lst (us.map dT4))])=some (.lst (us.map dT4)):=by
    intro _
    rw [fldC_in]
    simp [List.lookup,b1]
  have hf':=hf []
  generalize us.map dT4=Y at *
  generalize hX:ts.map dT4=Z at *
  have hZ:Z.length≤16777216:=by rw [← hX,List.length_map]; exact tl
  simp [hR,dSetF_ap,putFD,sortL_ap,dComp_ap,hZ,c1,hso,eu,hf',hJ,n1,n2,n3,wFs]
theorem makeL2_ok (C:Addr) (ks:List Str) (ts:List T4) (n:Int) (hn:1≤n∧n≤7) (hk:okK n ks) (hs:okS n ts):∃ J,∀ (i:Nat) (ρ:DF) (t:Option Addr),ρ[i]?=some (some (.own (.lst2 [ks.map .str,ts.map dT4]) t))→makeL2 C (mM_q0 C) i ρ=some (.ins C (wFs ks (.lst (srt ts)) J)):=by
  obtain ⟨J,e⟩:=init_okB C ks ts n hn hk hs
  refine ⟨J,fun i ρ t h=>?_⟩
  have ha:argL2 i ρ=some [.bor (.lst (ks.map .str)),.bor (.lst (ts.map dT4))]:=by unfold argL2; rw [h]
  unfold makeL2
  rw [ha,Option.bind_some,e]
  rfl
theorem rxI_ok (C:Addr) (ks:List Str) (ts:List T4) (x:D) (hk:∀ x∈ks,x.cps.size≤4∧(wordB x=false→(PySem.reprText x).length≤1000)):rx_Web__init C [.v x,.bor (.lst (ks.map .str)),.bor (.lst (ts.map dT4))]=idW ks ts:=by
  have h:=rx_ok C ks ts hk
  unfold rx_Web__init rzX
  rw [if_pos (show ([.v x,.bor (.lst (ks.map .str)),.bor (.lst (ts.map dT4))]:List DV).length=3 from rfl),show startD 3 3 [.v x,.bor (.lst (ks.map .str)),.bor (.lst (ts.map dT4))]=[some (.v x),some (.bor (.lst (ks.map .str))),some (.bor (.lst (ts.map dT4)))] from rfl]
  have e:xCall (aB 1 (aB 2 (fun _=>some []))) (rx_refuse_wrong C) [some (.v x),some (.bor (.lst (ks.map .str))),some (.bor (.lst (ts.map dT4)))]=(idW ks ts).map .ex:=by
    unfold xCall
    show (some [DV.bor (.lst (ks.map .str)),.bor (.lst (ts.map dT4))]).bind _=_
    rw [Option.bind_some,h]
  unfold xSeq
  rw [e]
  cases idW ks ts <;> rfl
theorem okW_sh {x:Str} (h:okW x):shW x∧wordB x=true:=by
  obtain ⟨h1,h2,h3⟩:=h
  refine ⟨⟨by omega,fun c hc=>by have:=h3 c hc; omega⟩,?_⟩
  unfold wordB
  rw [decide_eq_true h1,decide_eq_true h2,Bool.and_true,Bool.and_true,List.all_eq_true]
  intro c hc
  obtain ⟨a,b⟩:=h3 c hc
  rw [decide_eq_true a,decide_eq_true b]
  rfl
theorem word_okW {x:Str} (h:wordB x=true):okW x:=by
  unfold wordB at h
  rw [Bool.and_eq_true,Bool.and_eq_true,List.all_eq_true] at h
  refine ⟨of_decide_eq_true h.2.1,of_decide_eq_true h.2.2,fun c hc=>?_⟩
  have:=h.1 c hc
  rw [Bool.and_eq_true] at this
  exact ⟨of_decide_eq_true this.1,of_decide_eq_true this.2⟩
theorem idW_none {ks:List Str} {ts:List T4} (h:idW ks ts=none):(1≤ks.length∧ks.length≤7)∧okK (ks.length:Int) ks∧okS (ks.length:Int) ts:=by
  unfold idW at h
  split at h
  · cases h
  · rename_i h1
    split at h
    · cases h
    · rename_i h2
      split at h
      · cases h
      · rename_i h3
        have a:1≤ks.length∧ks.length≤7:=Classical.not_not.mp fun z=>h1 (.inl z)
        have b:¬ 12 < ts.length:=fun z=>h1 (.inr z)
        have c:ks.all wordB=true:=by cases q:ks.all wordB with | true=>rfl | false=>exact absurd q h2
        have d:ts.all (tieB (ks.length:Int))=true:=by cases q:ts.all (tieB (ks.length:Int)) with | true=>rfl | false=>exact absurd q h3
        refine ⟨a,⟨rfl,fun x hx=>word_okW (List.all_eq_true.mp c x hx)⟩,by omega,fun t ht=>?_⟩
        have:=List.all_eq_true.mp d t ht
        unfold tieB rgB at this
        rw [Bool.and_eq_true,Bool.and_eq_true,Bool.and_eq_true] at this
        obtain ⟨⟨x1,x2⟩,x3,x4⟩:=this
        have y1:=of_decide_eq_true x1
        have y2:=of_decide_eq_true x2
        have y4:=of_decide_eq_true x4
        have y3:¬ t.1=t.2.1:=fun z=>by rw [decide_eq_true z] at x3; cases x3
        exact ⟨y1.1,y1.2,y2.1,y2.2,y3,y4.1,y4.2⟩
noncomputable abbrev tiB (M Kd:List DV→Option DV):DF→Option RES:=(dSeq (dSet 6 (d2 addA (d2 ixD (getR 0) (d2 modD (getR 5) (d1 lenD (getN 0)))) (d2 fdivD (getR 5) (d1 lenD (getN 0)))))
    (dSeq (dSet 7 (callV M (aB 6 (aV (fun _=>some (.int 8)) (fun _=>some [])))))
    (dSeq (dSet 8 (d2 modD (getR 7) (getR 2)))
    (dSeq (dSet 9 (d2 modD (d2 addA (d2 addA (getR 8) (fun _=>some (.int 1))) (d2 modD (d2 fdivD (getR 7) (fun _=>some (.int 7))) (d2 subD (getR 2) (fun _=>some (.int 1))))) (getR 2)))
    (dSeq (dApp 3 (asT (lcons (getV 8) (lcons (getV 9) (lcons (callV Kd (aB 6 (aB 1 (fun _=>some [])))) (lcons (d2 eqD (d2 modD (d2 fdivD (getR 7) (fun _=>some (.int 49))) (fun _=>some (.int 2))) (fun _=>some (.int 0))) lnil))))))
    (dIf (andT (asB (d2 eqD (d2 modD (d2 fdivD (getR 7) (fun _=>some (.int 98))) (fun _=>some (.int 5))) (fun _=>some (.int 0)))) (asB (d2 gtI (getR 5) (fun _=>some (.int 0))))) (dSetIx 3 (getV 5) (d2 ixD (getR 3) (d2 subD (getR 5) (fun _=>some (.int 1))))) dNx))))))
noncomputable abbrev tiF (cs:List D) (s n cnt:Int) (ts:List T4) (x5 x6 x7 x8 x9:Option DV):DF:=[some (.v (.lst cs)),some (.v (.int s)),some (.v (.int n)),some (.own (.lst (ts.map dT4)) none),some (.v (.int cnt)),x5,x6,x7,x8,x9]
theorem ti_step {M Kd:List DV→Option DV} {cs:List D} {s n cnt c r k:Int} {j:Nat} {ts:List T4} (x6 x7 x8 x9:Option DV) (hc:cs.length=12) (hn:2≤n∧n≤9) (hl:ts.length=j) (hj:j≤14) (hat:atI cs ((j:Int) % 12)=some (.int c)) (hM:M [.v (.int (c + (j:Int) / 12)),.v (.int 8)]=some (.v (.int r))) (hK:Kd [.v (.int (c + (j:Int) / 12)),.v (.int s)]=some (.v (.int k))) :
    ∃ ts' y6 y7 y8 y9,tiB M Kd (tiF cs s n cnt ts (some (.v (.int (j:Int)))) x6 x7 x8 x9)=some (.nx (tiF cs s n cnt ts' (some (.v (.int (j:Int)))) y6 y7 y8 y9))∧ts'.length=j + 1:=by
  have lc:((cs.length:Nat):Int)=12:=by omega
  have m12:=modD_int (j:Int) 12 (by decide)
  have f12:=fdivD_int (j:Int) 12 (by decide)
  have mn:=fun x=>modD_int x n (by omega)
  have mn1:=fun x=>modD_int x (n - 1) (by omega)
  have d7:=fdivD_int r 7 (by decide)
  have d49:=fdivD_int r 49 (by decide)
  have d98:=fdivD_int r 98 (by decide)
  have m2:=fun x=>modD_int x 2 (by decide)
  have m5:=fun x=>modD_int x 5 (by decide)
  obtain ⟨a,ha⟩:∃ a,r % n=a:=⟨_,rfl⟩
  obtain ⟨b,hb⟩:∃ b,(a + 1 + r / 7 % (n - 1)) % n=b:=⟨_,rfl⟩
  obtain ⟨e,he⟩:∃ e,c + (j:Int) / 12=e:=⟨_,rfl⟩
  rw [he] at hM hK
  have hlen:ts.length < 16777216:=by omega
  obtain ⟨us,hus⟩:∃ us:List T4,ts++[(a,b,k,decide (r / 49 % 2=0))]=us:=⟨_,rfl⟩
  have hu:us.length=j + 1:=by rw [← hus,List.length_append,hl]; rfl
  have hum:ts.map dT4++[.tup [.int a,.int b,.int k,.bl (decide (r / 49 % 2=0))]]=us.map dT4:=by rw [← hus,List.map_append]; rfl
  have E:tiB M Kd (tiF cs s n cnt ts (some (.v (.int (j:Int)))) x6 x7 x8 x9)=(dIf (andT (asB (d2 eqD (d2 modD (d2 fdivD (getR 7) (fun _=>some (.int 98))) (fun _=>some (.int 5))) (fun _=>some (.int 0)))) (asB (d2 gtI (getR 5) (fun _=>some (.int 0))))) (dSetIx 3 (getV 5) (d2 ixD (getR 3) (d2 subD (getR 5) (fun _=>some (.int 1))))) dNx) (tiF cs s n cnt us (some (.v (.int (j:Int)))) (some (.v (.int e))) (some (.v (.int r))) (some (.v (.int a))) (some (.v (.int b)))):=by
    unfold tiB
    rw [dSeq_nx (ρ':=tiF cs s n cnt ts (some (.v (.int (j:Int)))) (some (.v (.int e))) x7 x8 x9) (by simp [lc,m12,f12,ix1,hat,he]),
      dSeq_nx (ρ':=tiF cs s n cnt ts (some (.v (.int (j:Int)))) (some (.v (.int e))) (some (.v (.int r))) x8 x9) (by simp [hM]),
      dSeq_nx (ρ':=tiF cs s n cnt ts (some (.v (.int (j:Int)))) (some (.v (.int e))) (some (.v (.int r))) (some (.v (.int a))) x9) (by simp [mn,ha]),
      dSeq_nx (ρ':=tiF cs s n cnt ts (some (.v (.int (j:Int)))) (some (.v (.int e))) (some (.v (.int r))) (some (.v (.int a))) (some (.v (.int b)))) (by simp [mn,mn1,d7,hb]),
      dSeq_nx (ρ':=tiF cs s n cnt us (some (.v (.int (j:Int)))) (some (.v (.int e))) (some (.v (.int r))) (some (.v (.int a))) (some (.v (.int b)))) (by simp [hK,d49,m2,hlen,hum])]
  rw [E]
  by_cases q:r / 98 % 5=0∧0 < (j:Int)
  · obtain ⟨x,_,hx⟩:=atI_map (l:=us) dT4 (i:=(j:Int) - 1) (by omega) (by omega)
    have hix:ixN us.length (j:Int)=some j:=by rw [ixN_in (by omega) (by omega)]; rfl
    refine ⟨us.set j x,some (.v (.int e)),some (.v (.int r)),some (.v (.int a)),some (.v (.int b)),?_,by rw [List.length_set,hu]⟩
    obtain ⟨q1,q2⟩:=q
    generalize (j:Int)=J at *
    simp [d98,m5,q1,q2,dSetIx_ap,ix1,hx,hix,List.map_set]
  · refine ⟨us,some (.v (.int e)),some (.v (.int r)),some (.v (.int a)),some (.v (.int b)),?_,hu⟩
    by_cases q1:r / 98 % 5=0
    · have q2:¬ 0 < (j:Int):=fun z=>q ⟨q1,z⟩
      generalize (j:Int)=J at *
      simp [d98,m5,q1,q2]
    · simp [d98,m5,q1]
theorem ties_ok (C:Addr) (cs:List Int) (s n:Int) (hc:cs.length=12) (hs:0≤s∧s < 998244353) (hn:2≤n∧n≤9):∃ ts:List T4,m_q15 C [.v (.lst (cs.map .int)),.v (.int s),.v (.int n)]=some (.own (.lst (ts.map dT4)) none)∧ts.length≤14:=by
  have hM:=fun c=>mix_ok C c 8 (by decide)
  have hK:=fun c=>kind_ok C c s hs
  obtain ⟨r4,h4,r40,_⟩:=mix_ok C s 4 (by decide)
  obtain ⟨r5,h5,r50,_⟩:=mix_ok C s 5 (by decide)
  unfold m_q15 g_q15
  generalize m_q12 C=M at *
  generalize m_q11 C=Kd at *
  have m13:=modD_int r4 13 (by decide)
  have m9:=modD_int r5 9 (by decide)
  have m2:=modD_int s 2 (by decide)
  have hcnt:∃ cnt:Int,(0≤cnt∧cnt≤14)∧∀ G,(dSeq (dSetO 3 (asL lnil))
    (dSeq (dSet 4 (d2 modD (callV M (aB 1 (aV (fun _=>some (.int 4)) (fun _=>some [])))) (fun _=>some (.int 13))))
    (dSeq (dIf (asB (d2 eqD (d2 modD (callV M (aB 1 (aV (fun _=>some (.int 5)) (fun _=>some [])))) (fun _=>some (.int 9))) (fun _=>some (.int 0)))) (dSet 4 (d2 addA (fun _=>some (.int 13)) (d2 modD (getR 1) (fun _=>some (.int 2))))) dNx)
    G))) (startD 10 3 [.v (.lst (cs.map .int)),.v (.int s),.v (.int n)])=G (tiF (cs.map .int) s n cnt [] none none none none none):=by
    by_cases q:r5 % 9=0
    · refine ⟨13 + s % 2,by omega,fun G=>?_⟩
      simp [h4,h5,m13,m9,m2,q]
      rfl
    · refine ⟨r4 % 13,by omega,fun G=>?_⟩
      simp [h4,h5,m13,m9,q]
      rfl
  obtain ⟨cnt,hb,e0⟩:=hcnt
  obtain ⟨z,e,ts,x5,x6,x7,x8,x9,rfl,hl⟩:=forD_ix (st:=setV 5) (body:=tiB M Kd) (fun j ρ=>∃ ts x5 x6 x7 x8 x9,ρ=tiF (cs.map .int) s n cnt ts x5 x6 x7 x8 x9∧ts.length=j) ((rngI cnt).map .int) 0 (tiF (cs.map .int) s n cnt [] none none none none none) ⟨[],_,_,_,_,_,rfl,rfl⟩ (by
    rintro j d _ hj ⟨ts,x5,x6,x7,x8,x9,rfl,hl⟩
    rw [Nat.zero_add] at hl
    have hjl:j < cnt.toNat:=by
      have:=(List.getElem?_eq_some_iff.mp hj).1
      rwa [List.length_map,rngI_len] at this
    obtain rfl:=rngI_at hj
    obtain ⟨c,_,hat⟩:=atI_map (l:=cs) D.int (i:=(j:Int) % 12) (by omega) (by omega)
    obtain ⟨r,hr,_,_⟩:=hM (c + (j:Int) / 12)
    obtain ⟨k,hk,_,_⟩:=hK (c + (j:Int) / 12)
    obtain ⟨ts',y6,y7,y8,y9,e,hl'⟩:=ti_step (cnt:=cnt) x6 x7 x8 x9 (by rw [List.length_map]; exact hc) hn hl (by omega) hat hr hk
    exact ⟨tiF (cs.map .int) s n cnt ts (some (.v (.int (j:Int)))) x6 x7 x8 x9,rfl,_,e,ts',_,y6,y7,y8,y9,rfl,by rw [hl']; omega⟩)
  refine ⟨ts,?_,by rw [hl,List.length_map,rngI_len]; omega⟩
  rw [mOf_3,e0,dSeq_nx (dFor_nx (rng1_of (n:=cnt) rfl ⟨hb.1,by omega⟩) e)]
  rfl
noncomputable abbrev btL (t:T4) (n f:Int):List T4:=[(t.1,n,t.2.2.1,t.2.2.2),(-1,t.2.1,t.2.2.1,t.2.2.2),(t.1,t.1,t.2.2.1,t.2.2.2),(t.1,t.2.1,-1,t.2.2.2),(t.1,t.2.1,1000000000000000000000000000000,t.2.2.2),(n + f,t.2.1,t.2.2.1,t.2.2.2),(t.1,-1 - f,t.2.2.1,t.2.2.2),(t.1,t.2.1,-1 - f,t.2.2.2),(t.1,t.2.1,1000000000000000000000000000000 + f,t.2.2.2),(t.2.1,t.2.1,t.2.2.1,t.2.2.2)]
noncomputable abbrev btF (t:T4) (n f h:Int) (x:Option DV):DF:=[some (.v (dT4 t)),some (.v (.int n)),some (.v (.int f)),some (.v (.int h)),some (.v (.int t.1)),some (.v (.int t.2.1)),some (.v (.int t.2.2.1)),some (.v (.bl t.2.2.2)),x]
theorem bad_tie_ok (C:Addr) (t:T4) (n f h:Int):∃ u:T4,m_q7 C [.v (dT4 t),.v (.int n),.v (.int f),.v (.int h)]=some (.v (dT4 u)):=by
  have m10:=modD_int h 10 (by decide)
  have hneg:negD (.int 1)=some (.int (-1)):=rfl
  obtain ⟨u,_,hat⟩:=atI_map (l:=btL t n f) dT4 (i:=h % 10) (by omega) (by show h % 10 < (10:Int); omega)
  refine ⟨u,?_⟩
  unfold m_q7 g_q7
  have e1:=addA_lst ((btL t n f).map dT4 |>.take 4) (((btL t n f).map dT4).drop 4 |>.take 3) (by simp)
  have e2:=addA_lst ((btL t n f).map dT4 |>.take 7) (((btL t n f).map dT4).drop 7) (by simp)
  rw [mOf_4,dSeq_nx (ρ':=btF t n f h none) rfl,
    dSeq_nx (ρ':=btF t n f h (some (.v (.lst ((btL t n f).map dT4 |>.take 4))))) (by simp [hneg,dT4]),
    dSeq_nx (ρ':=btF t n f h (some (.v (.lst ((btL t n f).map dT4 |>.take 7))))) (by
      rw [dSet_ap,d2_ap,show getR 8 (btF t n f h (some (.v (.lst ((btL t n f).map dT4 |>.take 4)))))=some (.lst ((btL t n f).map dT4 |>.take 4)) from rfl,Option.bind_some,asO_ap,asL_ap]
      rfl),
    dSeq_nx (ρ':=btF t n f h (some (.v (.lst ((btL t n f).map dT4))))) (by
      rw [dSet_ap,d2_ap,show getR 8 (btF t n f h (some (.v (.lst ((btL t n f).map dT4 |>.take 7)))))=some (.lst ((btL t n f).map dT4 |>.take 7)) from rfl,Option.bind_some,asO_ap,asL_ap]
      rfl)]
  generalize (btL t n f).map dT4=L at hat ⊢
  simp [m10,ix1,hat]
noncomputable def okX (x:Str):Prop:=okW x∨x∈bads
theorem okX_sh {x:Str} (h:okX x):shW x∧(wordB x=false→(PySem.reprText x).length≤1000):=by
  rcases h with h | h
  · obtain ⟨a,b⟩:=okW_sh h
    exact ⟨a,fun z=>by rw [b] at z; cases z⟩
  · obtain ⟨a,b⟩:=bad_sh x h
    exact ⟨⟨a,fun c hc=>of_decide_eq_true (List.all_eq_true.mp b c hc)⟩,fun _=>bad_repr x h⟩
noncomputable abbrev drF (cs:List D) (s n:Int) (x3 x4 x5 x6 x7:Option DV):DF:=[some (.v (.lst cs)),some (.v (.int s)),some (.v (.int n)),x3,x4,x5,x6,x7]
theorem dr_a {M:List DV→Option DV} {cs:List D} {c0 s:Int} (e0:atI cs 0=some (.int c0)) (h1:M [.v (.int c0),.v (.int 1)]=some (.v (.int s))) (hs:0≤s):∃ n:Int,(0≤n∧n≤9)∧∀ G,(dSeq (dSet 1 (callV M (aV (d2 ixD (getR 0) (fun _=>some (.int 0))) (aV (fun _=>some (.int 1)) (fun _=>some [])))))
    (dSeq (dSet 2 (d2 addA (fun _=>some (.int 1)) (d2 modD (getR 1) (fun _=>some (.int 7)))))
    (dSeq (dIf (asB (d2 eqD (d2 modD (d2 fdivD (getR 1) (fun _=>some (.int 7))) (fun _=>some (.int 9))) (fun _=>some (.int 0)))) (dSet 2 (d2 ixD (asO (asL (lcons (fun _=>some (.int 0)) (lcons (fun _=>some (.int 8)) (lcons (fun _=>some (.int 9)) lnil))))) (d2 modD (d2 fdivD (getR 1) (fun _=>some (.int 63))) (fun _=>some (.int 3))))) dNx)
    G))) (startD 8 1 [.v (.lst cs)])=G (drF cs s n none none none none none):=by
  have m7:=modD_int s 7 (by decide)
  have d7:=fdivD_int s 7 (by decide)
  have m9:=modD_int (s / 7) 9 (by decide)
  have d63:=fdivD_int s 63 (by decide)
  have m3:=modD_int (s / 63) 3 (by decide)
  by_cases q:s / 7 % 9=0
  · obtain ⟨x,hx,hat⟩:=atI_map (l:=[0,8,9]) D.int (i:=s / 63 % 3) (by omega) (by show s / 63 % 3 < (3:Int); omega)
    have hx9:0≤x∧x≤9:=by
      have:=List.mem_of_getElem? hx
      simp at this
      omega
    refine ⟨x,hx9,fun G=>?_⟩
    have hat':atI [D.int 0,.int 8,.int 9] (s / 63 % 3)=some (.int x):=hat
    rw [q] at m9
    simp [ix1,e0,h1,m7,d7,m9,d63,m3,hat']
  · refine ⟨1 + s % 7,by omega,fun G=>?_⟩
    simp [ix1,e0,h1,m7,d7,m9,q]
theorem dr_b {M Wd:List DV→Option DV} {cs:List Int} {s n:Int} (hc:cs.length=12) (hn:0≤n∧n≤9) (hM:∀ c k:Int,0≤k∧k≤1000→∃ r:Int,M [.v (.int c),.v (.int k)]=some (.v (.int r))∧0≤r∧r < 998244353) (hW:∀ w:Int,0≤w→∃ x:Str,Wd [.v (.int s),.v (.int w)]=some (.v (.str x))∧okW x) :
    ∃ ks:List Str,(ks.length:Int)=n∧(∀ x∈ks,okW x)∧(dSetO 3 (asL (dComp 1 [1,0] (rng1 (getR 2)) (setV 0) dYes (callV Wd (aB 1 (aV (d2 modD (callV M (aV (d2 ixD (getR 2) (d2 modD (getR 0) (fun _=>some (.int 12)))) (aV (d2 addA (fun _=>some (.int 20)) (getR 0)) (fun _=>some [])))) (fun _=>some (.int 3))) (fun _=>some []))))))) (drF (cs.map .int) s n none none none none none)=some (.nx (drF (cs.map .int) s n (some (.own (.lst (ks.map .str)) none)) none none none none)):=by
  have hr:rng1 (getR 2) (drF (cs.map .int) s n none none none none none)=some ((rngI n).map .int):=rng1_of (n:=n) rfl ⟨hn.1,by omega⟩
  obtain ⟨ks,e,hl,hk⟩:=mapD_good (st:=setV 0) (c:=dYes) (e:=(callV Wd (aB 1 (aV (d2 modD (callV M (aV (d2 ixD (getR 2) (d2 modD (getR 0) (fun _=>some (.int 12)))) (aV (d2 addA (fun _=>some (.int 20)) (getR 0)) (fun _=>some [])))) (fun _=>some (.int 3))) (fun _=>some []))))) (ρ:=[none,some (.v (.int s)),some (.v (.lst (cs.map .int)))]) D.str okW ((rngI n).map .int) (by
    intro d hd
    obtain ⟨k,hk,rfl⟩:=List.mem_map.mp hd
    have hk:=mem_rngI.mp hk
    obtain ⟨c,_,hat⟩:=atI_map (l:=cs) D.int (i:=k % 12) (by omega) (by omega)
    obtain ⟨r,hr,r0,_⟩:=hM c (20 + k) (by omega)
    obtain ⟨x,hx,ox⟩:=hW (r % 3) (by omega)
    have m12:=modD_int k 12 (by decide)
    have m3:=modD_int r 3 (by decide)
    refine ⟨[some (.v (.int k)),some (.v (.int s)),some (.v (.lst (cs.map .int)))],rfl,rfl,x,?_,ox⟩
    generalize cs.map D.int=L at hat ⊢
    simp [ix1,m12,hat,hr,m3,hx])
  have hl':(ks.length:Int)=n:=by rw [hl,List.length_map,rngI_len]; omega
  refine ⟨ks,hl',hk,?_⟩
  have hsz:((rngI n).map D.int).length≤16777216:=by rw [List.length_map,rngI_len]; omega
  rw [dSetO_ap,asL_ap,dComp_ap,hr,Option.bind_some,if_pos hsz]
  rw [show capD 1 [1,0] (drF (cs.map .int) s n none none none none none)=[none,some (.v (.int s)),some (.v (.lst (cs.map .int)))] from rfl,e]
  rfl
theorem maxD_2 (n:Int):maxD (.int 2) (.int n)=some (.int (if n > 2 then n else 2)):=rfl
theorem dr_c {M:List DV→Option DV} {cs:List D} {ks:List Str} {x4:Option DV} {s n c1 r:Int} (hn:0≤n∧n≤9) (hl:(ks.length:Int)=n) (hk:∀ x∈ks,okX x) (e1:atI cs 1=some (.int c1)) (h1:M [.v (.int c1),.v (.int 6)]=some (.v (.int r))) (hr:0≤r) :
    ∃ (ks':List Str) (x6:Option DV),ks'.length=ks.length∧(∀ x∈ks',okX x)∧∀ G,(dSeq (dSet 5 (callV M (aV (d2 ixD (getR 0) (fun _=>some (.int 1))) (aV (fun _=>some (.int 6)) (fun _=>some [])))))
    (dSeq (dIf (andT (asB (d2 gtI (getR 2) (fun _=>some (.int 0)))) (asB (d2 eqD (d2 modD (getR 5) (fun _=>some (.int 4))) (fun _=>some (.int 0))))) (dSeq (dSet 6 (asO (asL (lcons (fun _=>some (.str "")) (lcons (fun _=>some (.str "abcd")) (lcons (fun _=>some (.str "A")) (lcons (fun _=>some (.str "a1")) (lcons (fun _=>some (.str "a b")) (lcons (fun _=>some (.str "-")) (lcons (fun _=>some (.str "zzzz")) (lcons (fun _=>some (.str "aB")) (lcons (fun _=>some (.str "{a")) (lcons (fun _=>some (.str "~")) lnil)))))))))))))
    (dSetIx 3 (d2 modD (d2 fdivD (getR 5) (fun _=>some (.int 4))) (getR 2)) (d2 ixD (getR 6) (d2 modD (d2 fdivD (getR 5) (fun _=>some (.int 40))) (fun _=>some (.int 10)))))) dNx)
    G)) (drF cs s n (some (.own (.lst (ks.map .str)) none)) x4 none none none)=G (drF cs s n (some (.own (.lst (ks'.map .str)) none)) x4 (some (.v (.int r))) x6 none):=by
  have m4:=modD_int r 4 (by decide)
  have d4:=fdivD_int r 4 (by decide)
  have d40:=fdivD_int r 40 (by decide)
  have m10:=modD_int (r / 40) 10 (by decide)
  by_cases q1:0 < n
  · by_cases q2:r % 4=0
    · have mn:=fun x=>modD_int x n q1
      obtain ⟨x,hx,hat⟩:=atI_map (l:=bads) D.str (i:=r / 40 % 10) (by omega) (by show r / 40 % 10 < (10:Int); omega)
      have hat':atI [D.str "",.str "abcd",.str "A",.str "a1",.str "a b",.str "-",.str "zzzz",.str "aB",.str "{a",.str "~"] (r / 40 % 10)=some (.str x):=hat
      have j0:0≤r / 4 % n:=Int.emod_nonneg _ (by omega)
      have j1:r / 4 % n < n:=Int.emod_lt_of_pos _ (by omega)
      have hix:ixN ks.length (r / 4 % n)=some (r / 4 % n).toNat:=ixN_in j0 (by omega)
      refine ⟨ks.set (r / 4 % n).toNat x,some (.v (.lst [D.str "",.str "abcd",.str "A",.str "a1",.str "a b",.str "-",.str "zzzz",.str "aB",.str "{a",.str "~"])),List.length_set,fun y hy=>?_,fun G=>?_⟩
      · rcases List.mem_or_eq_of_mem_set hy with h | h
        · exact hk y h
        · exact .inr (h ▸ List.mem_of_getElem? hx)
      · rw [List.map_set]
        simp [ix1,e1,h1,m4,q1,q2,d4,d40,m10,mn,dSetIx_ap,hat',hix]
    · refine ⟨ks,none,rfl,hk,fun G=>?_⟩
      simp [ix1,e1,h1,m4,q1,q2]
  · refine ⟨ks,none,rfl,hk,fun G=>?_⟩
    simp [ix1,e1,h1,q1]
theorem dr_d {M Bt:List DV→Option DV} {cs:List D} {K:List D} {ts:List T4} {x5 x6:Option DV} {s n c2 c3 r:Int} (hl:ts.length≤14) (e2:atI cs 2=some (.int c2)) (e3:atI cs 3=some (.int c3)) (h2:M [.v (.int c2),.v (.int 7)]=some (.v (.int r))) (hr:0≤r) (hB:∀ (t:T4) (n f h:Int),∃ u:T4,Bt [.v (dT4 t),.v (.int n),.v (.int f),.v (.int h)]=some (.v (dT4 u))) :
    ∃ ts':List T4,ts'.length≤14∧retOf ((dSeq (dSet 5 (callV M (aV (d2 ixD (getR 0) (fun _=>some (.int 2))) (aV (fun _=>some (.int 7)) (fun _=>some [])))))
    (dSeq (dIf (andT (asB (d2 gtI (d1 lenD (getN 4)) (fun _=>some (.int 0)))) (asB (d2 eqD (d2 modD (getR 5) (fun _=>some (.int 4))) (fun _=>some (.int 0))))) (dSeq (dSet 7 (d2 modD (d2 fdivD (getR 5) (fun _=>some (.int 4))) (d1 lenD (getN 4))))
    (dSetIx 4 (getV 7) (callV Bt (aV (d2 ixD (getR 4) (getR 7)) (aV (d2 maxD (fun _=>some (.int 2)) (getN 2)) (aV (d2 modD (d2 ixD (getR 0) (fun _=>some (.int 3))) (d2 powD (fun _=>some (.int 10)) (fun _=>some (.int 30)))) (aV (d2 fdivD (getR 5) (fun _=>some (.int 60))) (fun _=>some [])))))))) dNx)
    (dFrz 4 (dFrz 3 (dRet (asT (lcons (getV 3) (lcons (getV 4) lnil)))))))) (drF cs s n (some (.own (.lst K) none)) (some (.own (.lst (ts.map dT4)) none)) x5 x6 none))=some (.v (.tup [.lst K,.lst (ts'.map dT4)])):=by
  have m4:=modD_int r 4 (by decide)
  have d4:=fdivD_int r 4 (by decide)
  have d60:=fdivD_int r 60 (by decide)
  have m30:=modD_int c3 1000000000000000000000000000000 (by decide)
  obtain ⟨m,hm⟩:∃ m:Int,(ts.length:Int)=m:=⟨_,rfl⟩
  have hll:((ts.map dT4).length:Int)=m:=by rw [List.length_map]; exact hm
  by_cases q1:0 < m
  · by_cases q2:r % 4=0
    · have mn:=fun x=>modD_int x m q1
      have j0:0≤r / 4 % m:=Int.emod_nonneg _ (by omega)
      have j1:r / 4 % m < m:=Int.emod_lt_of_pos _ (by omega)
      have hix:ixN ts.length (r / 4 % m)=some (r / 4 % m).toNat:=ixN_in j0 (by omega)
      obtain ⟨t,_,hat⟩:=atI_map (l:=ts) dT4 j0 (by omega)
      obtain ⟨w,hw⟩:∃ w:Int,(if n > 2 then n else 2)=w:=⟨_,rfl⟩
      obtain ⟨u,hu⟩:=hB t w (c3 % 1000000000000000000000000000000) (r / 60)
      have hmx:=maxD_2 n
      rw [hw] at hmx
      refine ⟨ts.set (r / 4 % m).toNat u,by rw [List.length_set]; exact hl,?_⟩
      rw [List.map_set]
      have hix':ixN (ts.map dT4).length (r / 4 % m)=some (r / 4 % m).toNat:=by rw [List.length_map]; exact hix
      generalize (r / 4 % m).toNat=jn at *
      have mm:=mn (r / 4)
      generalize r / 4 % m=jj at *
      generalize ts.map dT4=L at *
      rw [dSeq_nx (ρ':=drF cs s n (some (.own (.lst K) none)) (some (.own (.lst L) none)) (some (.v (.int r))) x6 none) (by simp [ix1,e2,h2]),
        dSeq_nx (ρ':=drF cs s n (some (.own (.lst K) none)) (some (.own (.lst (L.set jn (dT4 u))) none)) (some (.v (.int r))) x6 (some (.v (.int jj)))) (by
          rw [dIf_ap,show (andT (asB (d2 gtI (d1 lenD (getN 4)) (fun _=>some (.int 0)))) (asB (d2 eqD (d2 modD (getR 5) (fun _=>some (.int 4))) (fun _=>some (.int 0))))) (drF cs s n (some (.own (.lst K) none)) (some (.own (.lst L) none)) (some (.v (.int r))) x6 none)=some true by simp [hll,q1,m4,q2],Option.bind_some,if_pos rfl,
            dSeq_nx (ρ':=drF cs s n (some (.own (.lst K) none)) (some (.own (.lst L) none)) (some (.v (.int r))) x6 (some (.v (.int jj)))) (by simp [d4,hll,mm])]
          simp [dSetIx_ap,ix1,hat,hmx,e3,m30,d60,hu,hix'])]
      simp
    · refine ⟨ts,hl,?_⟩
      generalize ts.map dT4=L at *
      simp [ix1,e2,h2,hll,q1,m4,q2]
  · refine ⟨ts,hl,?_⟩
    generalize ts.map dT4=L at *
    simp [ix1,e2,h2,hll,q1]
theorem drawn_ok (C:Addr) (cs:List Int) (hc:cs.length=12):∃ (ks:List Str) (ts:List T4),m_q9 C [.v (.lst (cs.map .int))]=some (.v (.tup [.lst (ks.map .str),.lst (ts.map dT4)]))∧(∀ x∈ks,okX x)∧ks.length≤9∧ts.length≤14:=by
  have hat:∀ i:Nat,i < 12→∃ c:Int,atI (cs.map D.int) (i:Int)=some (.int c):=fun i hi=>by
    obtain ⟨x,_,e⟩:=atI_map (l:=cs) D.int (i:=(i:Int)) (by omega) (by omega)
    exact ⟨x,e⟩
  obtain ⟨c0,e0⟩:=hat 0 (by decide)
  obtain ⟨c1,e1⟩:=hat 1 (by decide)
  obtain ⟨c2,e2⟩:=hat 2 (by decide)
  obtain ⟨c3,e3⟩:=hat 3 (by decide)
  obtain ⟨s,h0,s0,s1⟩:=mix_ok C c0 1 (by decide)
  obtain ⟨r1,h1,r10,_⟩:=mix_ok C c1 6 (by decide)
  obtain ⟨r2,h2,r20,_⟩:=mix_ok C c2 7 (by decide)
  have hM:=mix_ok C
  have hW:=fun w hw=>word_ok C s w s0 hw
  have hT:=fun n hn=>ties_ok C cs s n hc ⟨s0,s1⟩ hn
  have hB:=bad_tie_ok C
  unfold m_q9 g_q9
  generalize m_q12 C=M at *
  generalize m_q18 C=Wd at *
  generalize m_q15 C=Ti at *
  generalize m_q7 C=Bt at *
  obtain ⟨n,hn,E1⟩:=dr_a e0 h0 s0
  obtain ⟨ks,kl,kk,E2⟩:=dr_b hc hn hM hW
  obtain ⟨w,hw⟩:∃ w:Int,(if n > 2 then n else 2)=w:=⟨_,rfl⟩
  have hw2:2≤w∧w≤9:=by rw [← hw]; split <;> omega
  have hmx:=maxD_2 n
  rw [hw] at hmx
  obtain ⟨ts,et,tl⟩:=hT w hw2
  obtain ⟨ks',x6,kl',kk',E3⟩:=dr_c (M:=M) (cs:=cs.map D.int) (s:=s) (x4:=some (.own (.lst (ts.map dT4)) none)) hn kl (fun x hx=>.inl (kk x hx)) e1 h1 r10
  obtain ⟨ts',tl',E4⟩:=dr_d (M:=M) (Bt:=Bt) (cs:=cs.map D.int) (K:=ks'.map D.str) (s:=s) (n:=n) (x5:=some (.v (.int r1))) (x6:=x6) tl e2 e3 h2 r20 hB
  refine ⟨ks',ts',?_,kk',by omega,tl'⟩
  rw [mOf_1,E1,dSeq_nx E2,dSeq_nx (ρ':=drF (cs.map .int) s n (some (.own (.lst (ks.map .str)) none)) (some (.own (.lst (ts.map dT4)) none)) none none none) (by simp [hmx,et]),E3,E4]
theorem odd5 {dss:List (List D)}:(OD.lst2 dss).d=.lst (dss.map .lst):=rfl
theorem okN28K {ks:List Str} (h:∀ x∈ks,okX x):(ks.map D.str).all (okN 28)=true:=by
  rw [List.all_eq_true]
  intro x hx
  obtain ⟨k,hk,rfl⟩:=List.mem_map.mp hx
  show PyData.strOk k=true
  unfold PyData.strOk
  rw [← Array.all_toList,List.all_eq_true]
  intro c hc
  have:=(okX_sh (h k hk)).1.2 c hc
  simp
  omega
theorem okN28T (ts:List T4):(ts.map dT4).all (okN 28)=true:=by
  rw [List.all_eq_true]
  intro x hx
  obtain ⟨t,_,rfl⟩:=List.mem_map.mp hx
  rfl
theorem ne_hand {ks:List Str} (h:∀ x∈ks,okX x) (ts:List T4):neD (.lst [.lst (ks.map .str),.lst (ts.map dT4)]) (.lst [.lst (ks.map .str),.lst (ts.map dT4)])=some (.bl false):=by
  have o:okN 30 (.lst [.lst (ks.map .str),.lst (ts.map dT4)])=true:=by
    show ((ks.map D.str).all (okN 28)&&((ts.map dT4).all (okN 28)&&true))=true
    rw [okN28K h,okN28T]
    rfl
  have e:eqd (.lst [.lst (ks.map .str),.lst (ts.map dT4)]) (.lst [.lst (ks.map .str),.lst (ts.map dT4)])=true:=by
    show (eqd (.lst (ks.map .str)) (.lst (ks.map .str))&&(eqd (.lst (ts.map dT4)) (.lst (ts.map dT4))&&true))=true
    rw [eqd_refl D.str (fun _ _=>rfl),eqd_refl dT4 (fun _ _=>rfl)]
    rfl
  rw [neD_of o o,e]
  rfl
theorem ne_told (i:Option Nat):neD (.lst (toldD i)) (.lst (toldD i))=some (.bl false):=by
  cases i with
  | none=>rfl
  | some k=>
    show neD (.lst ((bs3 k).map D.bl)) (.lst ((bs3 k).map D.bl))=_
    rw [neD_of rfl rfl,eqd_refl D.bl (fun _ _=>rfl)]
    rfl
theorem eq_told (i:Option Nat):eqD (.lst (toldD i)) (.lst [])=some (.bl (decide (i=none))):=by
  cases i with
  | none=>rfl
  | some k=>rfl
noncomputable abbrev lwF (N h:List D) (x2 x3 x4 x5 x6 x7 x8 x10:Option DV):DF:=[some (.v (.lst N)),some (.own (.lst h) none),x2,x3,x4,x5,x6,x7,x8,none,x10]
noncomputable abbrev lwB (Dr Ce Du:List DV→Option DV) (Rx:List DV→Option Nat) (In:OD→List DV→Option (OD×D)) (C:Addr):DF→Option RES:=(dSeq (dSetT [3,4] (callV Dr (aV (callV Ce (aB 0 (aV (getV 2) (aV (fun _=>some (.int 12)) (fun _=>some []))))) (fun _=>some []))))
    (dSeq (dSetO 5 (fun ρ=>((itemsL (getR 3)) ρ).bind fun a=>((itemsL (getR 4)) ρ).map fun b=>OD.lst2 [a,b]))
    (dSeq (dSet 6 (fun _=>some .non))
    (dSeq (dSet 7 (asO (asL lnil)))
    (dSeq (dSet 8 (fun _=>some (.bl false)))
    (dSeq (dTryC (fun ρ=>(argL2 5 ρ).bind fun xs=>Rx (.v (.ins C [])::xs)) 9 7 8 bs3 (dSet 6 (asO (makeL2 C In 5))))
    (dSeq (dIf (orT (asB (getV 8)) (orT (asB (d2 neD (getN 7) (callV Du (aB 3 (aB 4 (fun _=>some [])))))) (asB (d2 neD (getN 5) (asO (asL (lcons (getV 3) (lcons (getV 4) lnil)))))))) (dRet (fun _=>some (.bl false))) dNx)
    (dSeq (dIf (asB (d2 eqD (getN 7) (asO (asL lnil)))) (dApp 1 (asT (lcons (getV 6) (lcons (getV 3) (lcons (getV 4) lnil))))) dNx)
    (dSeq (dAppEL 5 0 (fun _=>some (.str "zz")))
    (dAppEL 5 1 (asT (lcons (fun _=>some (.int 0)) (lcons (fun _=>some (.int 1)) (lcons (fun _=>some (.int 5)) (lcons (fun _=>some (.bl true)) lnil)))))))))))))))
theorem lw_a {Dr Ce:List DV→Option DV} {N h cs K T:List D} {a:Int} {y3 y4 y5 y6 y7 y8 x10:Option DV} (hC:Ce [.v (.lst N),.v (.int a),.v (.int 12)]=some (.own (.lst cs) none)) (hD:Dr [.v (.lst cs)]=some (.v (.tup [.lst K,.lst T]))) {G:DF→Option RES} :
    (dSeq (dSetT [3,4] (callV Dr (aV (callV Ce (aB 0 (aV (getV 2) (aV (fun _=>some (.int 12)) (fun _=>some []))))) (fun _=>some []))))
    (dSeq (dSetO 5 (fun ρ=>((itemsL (getR 3)) ρ).bind fun a=>((itemsL (getR 4)) ρ).map fun b=>OD.lst2 [a,b]))
    (dSeq (dSet 6 (fun _=>some .non))
    (dSeq (dSet 7 (asO (asL lnil)))
    (dSeq (dSet 8 (fun _=>some (.bl false)))
    G))))) (lwF N h (some (.v (.int a))) y3 y4 y5 y6 y7 y8 x10)=G (lwF N h (some (.v (.int a))) (some (.v (.lst K))) (some (.v (.lst T))) (some (.own (.lst2 [K,T]) none)) (some (.v .non)) (some (.v (.lst []))) (some (.v (.bl false))) x10):=by
  rw [dSeq_nx (ρ':=lwF N h (some (.v (.int a))) (some (.v (.lst K))) (some (.v (.lst T))) y5 y6 y7 y8 x10) (by
      rw [dSetT_ap,show callV Dr (aV (callV Ce (aB 0 (aV (getV 2) (aV (fun _=>some (.int 12)) (fun _=>some []))))) (fun _=>some [])) (lwF N h (some (.v (.int a))) y3 y4 y5 y6 y7 y8 x10)=some (.tup [.lst K,.lst T]) by simp [hC,hD]]
      rfl),
    dSeq_nx (ρ':=lwF N h (some (.v (.int a))) (some (.v (.lst K))) (some (.v (.lst T))) (some (.own (.lst2 [K,T]) none)) y6 y7 y8 x10) (by simp),
    dSeq_nx (ρ':=lwF N h (some (.v (.int a))) (some (.v (.lst K))) (some (.v (.lst T))) (some (.own (.lst2 [K,T]) none)) (some (.v .non)) y7 y8 x10) (by simp),
    dSeq_nx (ρ':=lwF N h (some (.v (.int a))) (some (.v (.lst K))) (some (.v (.lst T))) (some (.own (.lst2 [K,T]) none)) (some (.v .non)) (some (.v (.lst []))) y8 x10) (by simp),
    dSeq_nx (ρ':=lwF N h (some (.v (.int a))) (some (.v (.lst K))) (some (.v (.lst T))) (some (.own (.lst2 [K,T]) none)) (some (.v .non)) (some (.v (.lst []))) (some (.v (.bl false))) x10) (by simp)]
theorem lw_b {Rx:List DV→Option Nat} {In:OD→List DV→Option (OD×D)} {C:Addr} {N h K T:List D} {F:List (Str×D)} {x2 x10:Option DV} {i:Option Nat} (hx:Rx [.v (.ins C []),.bor (.lst K),.bor (.lst T)]=i)
    (hm:i=none→∀ (j:Nat) (ρ:DF) (t:Option Addr),ρ[j]?=some (some (.own (.lst2 [K,T]) t))→makeL2 C In j ρ=some (.ins C F)) {G:DF→Option RES} :
    (dSeq (dTryC (fun ρ=>(argL2 5 ρ).bind fun xs=>Rx (.v (.ins C [])::xs)) 9 7 8 bs3 (dSet 6 (asO (makeL2 C In 5))))
    G) (lwF N h x2 (some (.v (.lst K))) (some (.v (.lst T))) (some (.own (.lst2 [K,T]) none)) (some (.v .non)) (some (.v (.lst []))) (some (.v (.bl false))) x10)=G (lwF N h x2 (some (.v (.lst K))) (some (.v (.lst T))) (some (.own (.lst2 [K,T]) none)) (some (.v (if i=none then .ins C F else .non))) (some (.v (.lst (toldD i)))) (some (.v (.bl false))) x10):=by
  refine dSeq_nx ?_
  have ha:((argL2 5 (lwF N h x2 (some (.v (.lst K))) (some (.v (.lst T))) (some (.own (.lst2 [K,T]) none)) (some (.v .non)) (some (.v (.lst []))) (some (.v (.bl false))) x10)).bind fun xs=>Rx (.v (.ins C [])::xs))=i:=hx
  unfold dTryC
  simp only [ha]
  cases i with
  | none=>
    simp only
    rw [dSet_ap,asO_ap,hm rfl 5 _ none rfl]
    rfl
  | some k=>rfl
theorem lw_c {Du:List DV→Option DV} {N h:List D} {ks:List Str} {ts:List T4} {x2 x10:Option DV} {d:D} {i:Option Nat} (hk:∀ x∈ks,okX x) (kl:ks.length≤9) (tl:ts.length≤14) (hh:h.length < 1000) (hd:Du [.v (.lst (ks.map .str)),.v (.lst (ts.map dT4))]=some (.own (.lst (toldD i)) none)) :
    (dSeq (dIf (orT (asB (getV 8)) (orT (asB (d2 neD (getN 7) (callV Du (aB 3 (aB 4 (fun _=>some [])))))) (asB (d2 neD (getN 5) (asO (asL (lcons (getV 3) (lcons (getV 4) lnil)))))))) (dRet (fun _=>some (.bl false))) dNx)
    (dSeq (dIf (asB (d2 eqD (getN 7) (asO (asL lnil)))) (dApp 1 (asT (lcons (getV 6) (lcons (getV 3) (lcons (getV 4) lnil))))) dNx)
    (dSeq (dAppEL 5 0 (fun _=>some (.str "zz")))
    (dAppEL 5 1 (asT (lcons (fun _=>some (.int 0)) (lcons (fun _=>some (.int 1)) (lcons (fun _=>some (.int 5)) (lcons (fun _=>some (.bl true)) lnil))))))))) (lwF N h x2 (some (.v (.lst (ks.map .str)))) (some (.v (.lst (ts.map dT4)))) (some (.own (.lst2 [ks.map .str,ts.map dT4]) none)) (some (.v d)) (some (.v (.lst (toldD i)))) (some (.v (.bl false))) x10)
      = some (.nx (lwF N (if i=none then h++[.tup [d,.lst (ks.map .str),.lst (ts.map dT4)]] else h) x2 (some (.v (.lst (ks.map .str)))) (some (.v (.lst (ts.map dT4)))) (some (.own (.lst2 [ks.map .str++[.str "zz"],ts.map dT4++[.tup [.int 0,.int 1,.int 5,.bl true]]]) none)) (some (.v d)) (some (.v (.lst (toldD i)))) (some (.v (.bl false))) x10)):=by
  have nh:=ne_hand hk ts
  have nt:=ne_told i
  have et:=eq_told i
  have k2:(ks.map D.str).length < 16777216:=by rw [List.length_map]; omega
  have t2:(ts.map dT4).length < 16777216:=by rw [List.length_map]; omega
  have h2:h.length < 16777216:=by omega
  generalize ks.map D.str=K at *
  generalize ts.map dT4=T at *
  generalize toldD i=Y at *
  rw [dSeq_nx (ρ':=lwF N h x2 (some (.v (.lst K))) (some (.v (.lst T))) (some (.own (.lst2 [K,T]) none)) (some (.v d)) (some (.v (.lst Y))) (some (.v (.bl false))) x10) (by simp [odd5,hd,nt,nh])]
  have a1:∀ h,dAppEL 5 0 (fun _=>some (.str "zz")) (lwF N h x2 (some (.v (.lst K))) (some (.v (.lst T))) (some (.own (.lst2 [K,T]) none)) (some (.v d)) (some (.v (.lst Y))) (some (.v (.bl false))) x10)=some (.nx (lwF N h x2 (some (.v (.lst K))) (some (.v (.lst T))) (some (.own (.lst2 [K++[.str "zz"],T]) none)) (some (.v d)) (some (.v (.lst Y))) (some (.v (.bl false))) x10)):=fun h=>if_pos k2
  have a2:∀ h,(dAppEL 5 1 (asT (lcons (fun _=>some (.int 0)) (lcons (fun _=>some (.int 1)) (lcons (fun _=>some (.int 5)) (lcons (fun _=>some (.bl true)) lnil)))))) (lwF N h x2 (some (.v (.lst K))) (some (.v (.lst T))) (some (.own (.lst2 [K++[.str "zz"],T]) none)) (some (.v d)) (some (.v (.lst Y))) (some (.v (.bl false))) x10)=some (.nx (lwF N h x2 (some (.v (.lst K))) (some (.v (.lst T))) (some (.own (.lst2 [K++[.str "zz"],T++[.tup [.int 0,.int 1,.int 5,.bl true]]]) none)) (some (.v d)) (some (.v (.lst Y))) (some (.v (.bl false))) x10)):=fun h=>if_pos t2
  by_cases q:i=none
  · rw [decide_eq_true q] at et
    rw [if_pos q,dSeq_nx (ρ':=lwF N (h++[.tup [d,.lst K,.lst T]]) x2 (some (.v (.lst K))) (some (.v (.lst T))) (some (.own (.lst2 [K,T]) none)) (some (.v d)) (some (.v (.lst Y))) (some (.v (.bl false))) x10) (by simp [et,h2]),dSeq_nx (a1 _),a2]
  · rw [decide_eq_false q] at et
    rw [if_neg q,dSeq_nx (ρ':=lwF N h x2 (some (.v (.lst K))) (some (.v (.lst T))) (some (.own (.lst2 [K,T]) none)) (some (.v d)) (some (.v (.lst Y))) (some (.v (.bl false))) x10) (by simp [et]),dSeq_nx (a1 _),a2]
theorem selfC_w {C:Addr} {ks:List Str} {T J:D} {mn:Str} (h:(wFs ks T J).lookup mn=none) (xs:List DV):selfC C mn (.v (.ins C (wFs ks T J))::xs)=true:=by
  show (match (if C=C then some (wFs ks T J) else none) with | some fs=>(fs.lookup mn).isNone | none=>false)=true
  rw [if_pos rfl]
  simp only
  rw [h]
  rfl
theorem size_6 (C:Addr) (ks:List Str) (T J:D) (ρ:DF) (h:ρ[6]?=some (some (.v (.ins C (wFs ks T J))))):callMV C "size" (m_q1 C) (mArgs (selfB 6) g0) ρ=some (.int (ks.length:Int)):=by
  have hS:m_q1 C [.v (.ins C (wFs ks T J))]=some (.v (.int (ks.length:Int))):=by
    have:=fld_kinds C ks T J
    generalize wFs ks T J=F at this
    simp [m_q1,g_q1,this]
  have hm:mArgs (selfB 6) g0 ρ=some [.v (.ins C (wFs ks T J))]:=by
    unfold mArgs selfB g0
    rw [h]
    rfl
  unfold callMV
  rw [hm,Option.bind_some,if_pos (selfC_w (lk_size ks T J) _),hS]
  rfl
noncomputable def GoodH (C:Addr) (d:D):Prop:=∃ (x:D) (K T:List D),d=.tup [x,.lst K,.lst T]∧m_q16 C [.v x,.v (.lst K),.v (.lst T)]=some (.v (.bl true))∧∀ ρ:DF,ρ[6]?=some (some (.v x))→callMV C "size" (m_q1 C) (mArgs (selfB 6) g0) ρ=some (.int (K.length:Int))
theorem step_ok (C:Addr) (ns:List Int) (a:Int) (ha:0≤a) (hl:ns.length≤63) (h:List D) (hg:∀ d∈h,GoodH C d) (hh:h.length < 1000) (y3 y4 y5 y6 y7 y8 y10:Option DV) :
    ∃ h' z3 z4 z5 z6 z7 z8,lwB (m_q9 C) (m_q8 C) (m_q10 C) (rx_Web__init C) (mM_q0 C) C (lwF (ns.map .int) h (some (.v (.int a))) y3 y4 y5 y6 y7 y8 y10)=some (.nx (lwF (ns.map .int) h' (some (.v (.int a))) z3 z4 z5 z6 z7 z8 y10))∧(∀ d∈h',GoodH C d)∧h'.length≤h.length + 1:=by
  obtain ⟨cs,hCe,hc⟩:=cells_ok C ns a ha hl
  obtain ⟨ks,ts,hD,hk,kl,tl⟩:=drawn_ok C cs hc
  have hd:=due_ok C ks ts (fun x hx=>(okX_sh (hk x hx)).1)
  have hx:=rxI_ok C ks ts (.ins C []) (fun x hx=>⟨(okX_sh (hk x hx)).1.1,(okX_sh (hk x hx)).2⟩)
  have fin:∀ F,(idW ks ts=none→∀ (j:Nat) (ρ:DF) (t:Option Addr),ρ[j]?=some (some (.own (.lst2 [ks.map .str,ts.map dT4]) t))→makeL2 C (mM_q0 C) j ρ=some (.ins C F))→_:=fun F hm=>
    (lw_a (N:=ns.map .int) (h:=h) (y3:=y3) (y4:=y4) (y5:=y5) (y6:=y6) (y7:=y7) (y8:=y8) (x10:=y10) hCe hD).trans ((lw_b (In:=mM_q0 C) hx hm).trans (lw_c (d:=if idW ks ts=none then .ins C F else .non) hk kl tl hh hd))
  unfold lwB
  cases q:idW ks ts with
  | some k=>
    have e:=fin [] (fun z=>by rw [q] at z; cases z)
    rw [if_neg (show ¬ idW ks ts=none by rw [q]; exact fun z=>nomatch z)] at e
    exact ⟨_,_,_,_,_,_,_,e,hg,Nat.le_succ _⟩
  | none=>
    obtain ⟨w1,w2,w3⟩:=idW_none q
    have w1':1≤(ks.length:Int)∧(ks.length:Int)≤7:=by omega
    obtain ⟨J,hm⟩:=makeL2_ok C ks ts (ks.length:Int) w1' w2 w3
    have e:=fin _ (fun _=>hm)
    rw [if_pos q] at e
    refine ⟨_,_,_,_,_,_,_,e,fun d hd=>?_,by rw [List.length_append]; exact Nat.le_refl _⟩
    rcases List.mem_append.mp hd with hd | hd
    · exact hg d hd
    · rw [List.mem_singleton,if_pos q] at hd
      refine ⟨_,_,_,hd,web_is_ok C ks ts ts J (ks.length:Int) w2 w3.1 rfl,fun ρ hρ=>?_⟩
      rw [List.length_map]
      exact size_6 C ks _ J ρ hρ
theorem held_ok {C:Addr} {N h:List D} (hg:∀ d∈h,GoodH C d) (x2 x3 x4 x5 x6 x7 x8 x10:Option DV) :
    ∃ z,(dFrz 1 (dFor (lstOf (getV 1)) (setT [6,3,4]) (dSeq (dIf (notT (asB (callV (m_q16 C) (aB 6 (aB 3 (aB 4 (fun _=>some []))))))) (dRet (fun _=>some (.bl false))) dNx)
    (dSeq (dSet 10 (callMV C "size" (m_q1 C) (mArgs (selfB 6) g0)))
    (dIf (orT (notT (asB (callV (m_q17 C) (aB 10 (fun _=>some []))))) (asB (d2 neD (getN 10) (d1 lenD (getN 3))))) (dRet (fun _=>some (.bl false))) dNx))))) (lwF N h x2 x3 x4 x5 x6 x7 x8 x10)=some (.nx z):=by
  have hWh:∀ i:Int,m_q17 C [.v (.int i)]=some (.v (.bl true)):=whole_ok C
  unfold GoodH at hg
  generalize m_q17 C=Wh at hWh ⊢
  generalize m_q16 C=Wi at hg ⊢
  generalize m_q1 C=Sz at hg ⊢
  obtain ⟨z,e,_⟩:=forD_inv (st:=setT [6,3,4]) (body:=(dSeq (dIf (notT (asB (callV Wi (aB 6 (aB 3 (aB 4 (fun _=>some []))))))) (dRet (fun _=>some (.bl false))) dNx)
    (dSeq (dSet 10 (callMV C "size" Sz (mArgs (selfB 6) g0)))
    (dIf (orT (notT (asB (callV Wh (aB 10 (fun _=>some []))))) (asB (d2 neD (getN 10) (d1 lenD (getN 3))))) (dRet (fun _=>some (.bl false))) dNx)))) (ds:=h) (ρ:=[some (.v (.lst N)),some (.v (.lst h)),x2,x3,x4,x5,x6,x7,x8,none,x10])
    (fun ρ=>∃ x3 x4 x6 x10,ρ=[some (.v (.lst N)),some (.v (.lst h)),x2,x3,x4,x5,x6,x7,x8,none,x10]) ⟨_,_,_,_,rfl⟩ (by
    rintro d hd _ ⟨y3,y4,y6,y10,rfl⟩
    obtain ⟨x,K,T,rfl,e,hs⟩:=hg d hd
    refine ⟨[some (.v (.lst N)),some (.v (.lst h)),x2,some (.v (.lst K)),some (.v (.lst T)),x5,some (.v x),x7,x8,none,y10],rfl,[some (.v (.lst N)),some (.v (.lst h)),x2,some (.v (.lst K)),some (.v (.lst T)),x5,some (.v x),x7,x8,none,some (.v (.int (K.length:Int)))],?_,_,_,_,_,rfl⟩
    have hs1:=hs [some (.v (.lst N)),some (.v (.lst h)),x2,some (.v (.lst K)),some (.v (.lst T)),x5,some (.v x),x7,x8,none,y10] rfl
    rw [dSeq_nx (ρ':=[some (.v (.lst N)),some (.v (.lst h)),x2,some (.v (.lst K)),some (.v (.lst T)),x5,some (.v x),x7,x8,none,y10]) (by simp [e]),dSeq_nx (ρ':=[some (.v (.lst N)),some (.v (.lst h)),x2,some (.v (.lst K)),some (.v (.lst T)),x5,some (.v x),x7,x8,none,some (.v (.int (K.length:Int)))]) (by rw [dSet_ap,hs1]; rfl)]
    simp [hWh])
  refine ⟨z,?_⟩
  rw [dFrz_ap]
  show dFor _ _ _ [some (.v (.lst N)),some (.v (.lst h)),x2,x3,x4,x5,x6,x7,x8,none,x10]=_
  exact dFor_nx (by simp) e
theorem law_true (C:Addr) (ns:List Int) (hl:ns.length≤63):m_q6 C [.v (.lst (ns.map L2.D.int))]=some (.v (.bl true)):=by
  have hS:=step_ok C ns
  unfold m_q6 g_q6
  have hit:∃ k,k≤10∧rng3 (fun _=>some (.int 0)) (d2 maxD (fun _=>some (.int 1)) (d1 lenD (getN 0))) (fun _=>some (.int 12)) (lwF (ns.map .int) [] none none none none none none none none)=some (rangeL3 0 12 k):=by
    have hm:d2 maxD (fun _=>some (.int 1)) (d1 lenD (getN 0)) (lwF (ns.map .int) [] none none none none none none none none)=some (.int (if (ns.length:Int) > 1 then (ns.length:Int) else 1)):=by
      have e2:∀ a b:Int,maxD (.int a) (.int b)=some (.int (if b > a then b else a)):=fun _ _=>rfl
      simp [e2]
    obtain ⟨j,hj⟩:∃ j:Int,(if (ns.length:Int) > 1 then (ns.length:Int) else 1)=j:=⟨_,rfl⟩
    rw [hj] at hm
    have j1:1≤j∧j≤63:=by rw [← hj]; split <;> omega
    have hall:∀ i:Fin 64,Builtin.Range.small 0 ((i:Nat):Int) 12=true∧(Builtin.Range.rangeSize 0 ((i:Nat):Int) 12).toNat≤10:=by decide +kernel
    have hj':=hall ⟨j.toNat,by omega⟩
    rw [show (((⟨j.toNat,by omega⟩:Fin 64):Nat):Int)=j by simp only; omega] at hj'
    refine ⟨(Builtin.Range.rangeSize 0 j 12).toNat,hj'.2,?_⟩
    unfold rng3
    rw [hm]
    simp only
    rw [if_pos ⟨by decide,by decide,hj'.1⟩]
  obtain ⟨k,hk10,hit⟩:=hit
  obtain ⟨z,e,h,x2,x3,x4,x5,x6,x7,x8,rfl,hg,_⟩:=forD_ix (st:=setV 2) (body:=lwB (m_q9 C) (m_q8 C) (m_q10 C) (rx_Web__init C) (mM_q0 C) C)
    (fun j ρ=>∃ h x2 x3 x4 x5 x6 x7 x8,ρ=lwF (ns.map .int) h x2 x3 x4 x5 x6 x7 x8 none∧(∀ d∈h,GoodH C d)∧h.length≤j) (rangeL3 0 12 k) 0 (lwF (ns.map .int) [] none none none none none none none none) ⟨[],_,_,_,_,_,_,_,rfl,(fun _ z=>nomatch z),Nat.le_refl _⟩ (by
    rintro j d _ hj ⟨h,x2,x3,x4,x5,x6,x7,x8,rfl,hg,hh⟩
    have hjk:j < k:=by
      have:=(List.getElem?_eq_some_iff.mp hj).1
      unfold rangeL3 at this
      rwa [List.length_map,List.length_range] at this
    unfold rangeL3 at hj
    obtain ⟨i,_,rfl⟩:=List.mem_map.mp (List.mem_of_getElem? hj)
    obtain ⟨h',z3,z4,z5,z6,z7,z8,e,hg',hl'⟩:=hS (0 + (i:Int) * 12) (by omega) hl h hg (by omega) x3 x4 x5 x6 x7 x8 none
    exact ⟨lwF (ns.map .int) h (some (.v (.int (0 + (i:Int) * 12)))) x3 x4 x5 x6 x7 x8 none,rfl,_,e,h',_,z3,z4,z5,z6,z7,z8,rfl,hg',by omega⟩)
  obtain ⟨y,ey⟩:=held_ok (N:=ns.map .int) hg x2 x3 x4 x5 x6 x7 x8 none
  rw [mOf_1]
  have s0:startD 11 1 [.v (.lst (ns.map .int))]=[some (.v (.lst (ns.map .int))),none,none,none,none,none,none,none,none,none,none]:=rfl
  rw [s0,dSeq_nx (ρ':=lwF (ns.map .int) [] none none none none none none none none) rfl,dSeq_nx (dFor_nx hit e),dSeq_nx ey]
  rfl
noncomputable def spLaw (K:PySem.W.Frag):Sp:=fun vs H Q _=>∃ (a:Addr) (ns:List Int),vs=[.ref a]∧SqL K H a (ns.map V.int)∧ns.length≤63∧∀ H',Q (.bl true) H'
theorem reps_ints {K:PySem.W.Frag} {H:Hp}:∀ ns:List Int,Reps K H (ns.map V.int) (ns.map D.int)
  | []=>.nil
  | _::ns=>.cons .int (reps_ints ns)
theorem spLaw_imp {K:PySem.W.Frag} {m:List DV→Option DV} (hm:∀ ns:List Int,ns.length≤63→m [.v (.lst (ns.map D.int))]=some (.v (.bl true))):∀ vs H Q E,spLaw K vs H Q E→spD K m vs H Q E:=by
  rintro vs H Q E ⟨a,ns,rfl,hS,hl,hQ⟩
  refine ⟨fun _=>none,H,_,_,hm ns hl,⟨fun _ _ e=>e,fun _ _ e=>(by cases e),fun _ _ e=>(by cases e)⟩,.cons rfl (show Rep K H _ _ from .lst hS (reps_ints ns)) .nil,fun v F' H' _ _ r=>?_⟩
  cases r
  exact hQ H'
theorem len_1 {α:Type} {us:List α} (h:us.length=1):∃ a,us=[a]:=List.length_eq_one_iff.mp h
theorem len_2 {α:Type} {us:List α} (h:us.length=2):∃ a1 a2,us=[a1,a2]:=by
  cases us with
  | nil=>cases h
  | cons a r=>
    obtain ⟨a2,rfl⟩:=len_1 (Nat.succ.inj h)
    exact ⟨a,a2,rfl⟩
theorem len_3 {α:Type} {us:List α} (h:us.length=3):∃ a1 a2 a3,us=[a1,a2,a3]:=by
  cases us with
  | nil=>cases h
  | cons a r=>
    obtain ⟨a2,a3,rfl⟩:=len_2 (Nat.succ.inj h)
    exact ⟨a,a2,a3,rfl⟩
theorem len_4 {α:Type} {us:List α} (h:us.length=4):∃ a1 a2 a3 a4,us=[a1,a2,a3,a4]:=by
  cases us with
  | nil=>cases h
  | cons a r=>
    obtain ⟨a2,a3,a4,rfl⟩:=len_3 (Nat.succ.inj h)
    exact ⟨a,a2,a3,a4,rfl⟩
noncomputable def kE (P:Params) (x:Str) (t:Nat) (v:Value):DictEntry:=⟨PyData.keyHash P x,.str x t,v⟩
noncomputable def fO (n q:Str) (s:Stmt) (m:Str) (t c:Nat):Obj:=⟨.type "function",none,.func (PySem.W.fnOf n q (defArgs s) (defBody s) (defScope s) .none .none .none (.str m t) none (.ref c) .none),#[]⟩
noncomputable def cO (n:Str) (t:Nat) (q:Str) (u v:Nat) (l a f:Int) (r:Nat) (g:Int) (r2 r3:Nat) (h l2:Int) (y:Nat) (c d:Value:=.none):Obj:={ cls:=.type "code",data:=.fields #[.str n t,.str q u,.str "/claim/cut.py" v,.int l 0,.int a 0,.int 0 0,.int 0 0,.int f 0,.ref r,.bool true,.int g 0,.ref r2,.none,c,d,.ref r3,.int h 0,.int l2 0,.str "/claim/cut.py" y] }
noncomputable def kz:Str := "__doc__"
noncomputable def KK:Params→PySem.W.Frag:=fun P=>(fun (_:kz = "__doc__")=>
(nat_lit 3,{ cls:=.type "dict",data:=.dict #[kE P "__name__" 165 (.str "law_tieword_k01_webs" 511),kE P "__doc__" 166 (.none),kE P "__package__" 167 (.none),kE P "__loader__" 168 (.builtin "__main__.__loader__#opaque"),kE P "__spec__" 169 (.none),kE P "__annotations__" 170 (.ref 6),kE P "__builtins__" 171 (.ref 4),kE P "__file__" 173 (.str "/claim/cut.py" 172),kE P "__cached__" 174 (.none),kE P "_wall" 193 (.ref 21),kE P "WebError" 213 (.ref 31),kE P "TooGreat" 229 (.ref 44),kE P "BadPlace" 245 (.ref 56),kE P "BadTie" 261 (.ref 68),kE P "BadOrder" 277 (.ref 80),kE P "TooMany" 293 (.ref 92),kE P "BadText" 309 (.ref 104),kE P "BadName" 325 (.ref 116),kE P "Twice" 341 (.ref 128),kE P "NoWeb" 357 (.ref 140),kE P "BadRule" 373 (.ref 152),kE P "NoWay" 389 (.ref 164),kE P "MOST_PLACES" 393 (.int 7 392),kE P "MOST_TIES" 395 (.int 12 394),kE P "MOST_LETTERS" 397 (.int 3 396),kE P "is_place_kind" 403 (.ref 171),kE P "is_tie_kind" 410 (.ref 178),kE P "is_tie" 419 (.ref 185),kE P "refuse_wrong" 429 (.ref 192),kE P "lesser_first" 436 (.ref 199),kE P "put_pair" 445 (.ref 206),kE P "joins_of" 457 (.ref 213),kE P "Web" 510 (.ref 249),kE P "_law_cells" 521 (.ref 260),kE P "_law_mix" 530 (.ref 267),kE P "_law_whole" 537 (.ref 274),kE P "_law_word" 543 (.ref 279),kE P "_law_kind" 553 (.ref 286),kE P "_law_plain" 565 (.ref 293),kE P "_law_tie_is" 573 (.ref 300),kE P "_law_web_is" 585 (.ref 307),kE P "_law_ties" 601 (.ref 314),kE P "_law_bad_tie" 616 (.ref 321),kE P "_law_drawn" 622 (.ref 326),kE P "_law_word_is" 630 (.ref 333),kE P "_law_due" 643 (.ref 340),kE P "law" 660 (.ref 347)] 47 }) ::
(nat_lit 30,{ cls:=.type "dict",data:=.dict #[kE P "__module__" 203 (.str "tieword.errors" 194),kE P "__firstlineno__" 207 (.int 5 206),kE P "__static_attributes__" 208 (.ref 29),kE P "__weakref__" 210 (.ref 32),kE P "__doc__" 211 (.none)] 3 }) ::
(nat_lit 31,{ cls:=.type "type",data:=.cls { name := "WebError",bases:=[.type "ValueError"],mro:=[.ref 31,.type "ValueError",.type "Exception",.type "BaseException",.type "object"],ns:=30,qualname := "WebError",subclasses:=[.ref 44,.ref 56,.ref 68,.ref 80,.ref 92,.ref 104,.ref 116,.ref 128,.ref 140,.ref 152,.ref 164] },slots:=#[some (.ref 22),none,some (.str "WebError" 196),some (.str "WebError" 204),some (.builtin "ValueError.__new__"),some (.bool true)] }) ::
(nat_lit 43,{ cls:=.type "dict",data:=.dict #[kE P "__module__" 221 (.str "tieword.errors" 194),kE P "__firstlineno__" 225 (.int 7 224),kE P "__static_attributes__" 226 (.ref 42),kE P "__doc__" 227 (.none)] 2 }) ::
(nat_lit 44,{ cls:=.type "type",data:=.cls { name := "TooGreat",bases:=[.ref 31],mro:=[.ref 44,.ref 31,.type "ValueError",.type "Exception",.type "BaseException",.type "object"],ns:=43,qualname := "TooGreat" },slots:=#[some (.ref 35),none,some (.str "TooGreat" 214),some (.str "TooGreat" 222),some (.builtin "ValueError.__new__"),some (.bool true)] }) ::
(nat_lit 55,{ cls:=.type "dict",data:=.dict #[kE P "__module__" 237 (.str "tieword.errors" 194),kE P "__firstlineno__" 241 (.int 9 240),kE P "__static_attributes__" 242 (.ref 54),kE P "__doc__" 243 (.none)] 2 }) ::
(nat_lit 56,{ cls:=.type "type",data:=.cls { name := "BadPlace",bases:=[.ref 31],mro:=[.ref 56,.ref 31,.type "ValueError",.type "Exception",.type "BaseException",.type "object"],ns:=55,qualname := "BadPlace" },slots:=#[some (.ref 47),none,some (.str "BadPlace" 230),some (.str "BadPlace" 238),some (.builtin "ValueError.__new__"),some (.bool true)] }) ::
(nat_lit 67,{ cls:=.type "dict",data:=.dict #[kE P "__module__" 253 (.str "tieword.errors" 194),kE P "__firstlineno__" 257 (.int 11 256),kE P "__static_attributes__" 258 (.ref 66),kE P "__doc__" 259 (.none)] 2 }) ::
(nat_lit 68,{ cls:=.type "type",data:=.cls { name := "BadTie",bases:=[.ref 31],mro:=[.ref 68,.ref 31,.type "ValueError",.type "Exception",.type "BaseException",.type "object"],ns:=67,qualname := "BadTie" },slots:=#[some (.ref 59),none,some (.str "BadTie" 246),some (.str "BadTie" 254),some (.builtin "ValueError.__new__"),some (.bool true)] }) ::
(nat_lit 80,{ cls:=.type "type",data:=.cls { name := "BadOrder",bases:=[.ref 31],mro:=[.ref 80,.ref 31,.type "ValueError",.type "Exception",.type "BaseException",.type "object"],ns:=79,qualname := "BadOrder" },slots:=#[some (.ref 71),none,some (.str "BadOrder" 262),some (.str "BadOrder" 270),some (.builtin "ValueError.__new__"),some (.bool true)] }) ::
(nat_lit 92,{ cls:=.type "type",data:=.cls { name := "TooMany",bases:=[.ref 31],mro:=[.ref 92,.ref 31,.type "ValueError",.type "Exception",.type "BaseException",.type "object"],ns:=91,qualname := "TooMany" },slots:=#[some (.ref 83),none,some (.str "TooMany" 278),some (.str "TooMany" 286),some (.builtin "ValueError.__new__"),some (.bool true)] }) ::
(nat_lit 104,{ cls:=.type "type",data:=.cls { name := "BadText",bases:=[.ref 31],mro:=[.ref 104,.ref 31,.type "ValueError",.type "Exception",.type "BaseException",.type "object"],ns:=103,qualname := "BadText" },slots:=#[some (.ref 95),none,some (.str "BadText" 294),some (.str "BadText" 302),some (.builtin "ValueError.__new__"),some (.bool true)] }) ::
(nat_lit 116,{ cls:=.type "type",data:=.cls { name := "BadName",bases:=[.ref 31],mro:=[.ref 116,.ref 31,.type "ValueError",.type "Exception",.type "BaseException",.type "object"],ns:=115,qualname := "BadName" },slots:=#[some (.ref 107),none,some (.str "BadName" 310),some (.str "BadName" 318),some (.builtin "ValueError.__new__"),some (.bool true)] }) ::
(nat_lit 128,{ cls:=.type "type",data:=.cls { name := "Twice",bases:=[.ref 31],mro:=[.ref 128,.ref 31,.type "ValueError",.type "Exception",.type "BaseException",.type "object"],ns:=127,qualname := "Twice" },slots:=#[some (.ref 119),none,some (.str "Twice" 326),some (.str "Twice" 334),some (.builtin "ValueError.__new__"),some (.bool true)] }) ::
(nat_lit 140,{ cls:=.type "type",data:=.cls { name := "NoWeb",bases:=[.ref 31],mro:=[.ref 140,.ref 31,.type "ValueError",.type "Exception",.type "BaseException",.type "object"],ns:=139,qualname := "NoWeb" },slots:=#[some (.ref 131),none,some (.str "NoWeb" 342),some (.str "NoWeb" 350),some (.builtin "ValueError.__new__"),some (.bool true)] }) ::
(nat_lit 152,{ cls:=.type "type",data:=.cls { name := "BadRule",bases:=[.ref 31],mro:=[.ref 152,.ref 31,.type "ValueError",.type "Exception",.type "BaseException",.type "object"],ns:=151,qualname := "BadRule" },slots:=#[some (.ref 143),none,some (.str "BadRule" 358),some (.str "BadRule" 366),some (.builtin "ValueError.__new__"),some (.bool true)] }) ::
(nat_lit 164,{ cls:=.type "type",data:=.cls { name := "NoWay",bases:=[.ref 31],mro:=[.ref 164,.ref 31,.type "ValueError",.type "Exception",.type "BaseException",.type "object"],ns:=163,qualname := "NoWay" },slots:=#[some (.ref 155),none,some (.str "NoWay" 374),some (.str "NoWay" 382),some (.builtin "ValueError.__new__"),some (.bool true)] }) ::
(nat_lit 170,cO "is_place_kind" 398 "is_place_kind" 399 400 33 1 3 167 181 168 169 401 33 402) ::
(nat_lit 171,fO "is_place_kind" "is_place_kind" s_q2 "tieword.webs" 390 170) ::
(nat_lit 177,cO "is_tie_kind" 404 "is_tie_kind" 405 406 36 1 3 172 181 173 176 408 36 409 (.ref 174) (.ref 175)) ::
(nat_lit 178,fO "is_tie_kind" "is_tie_kind" s_q4 "tieword.webs" 390 177) ::
(nat_lit 184,cO "is_tie" 411 "is_tie" 412 413 38 2 3 179 181 180 183 417 38 418 (.ref 181) (.ref 182)) ::
(nat_lit 185,fO "is_tie" "is_tie" s_q3 "tieword.webs" 390 184) ::
(nat_lit 191,cO "refuse_wrong" 420 "refuse_wrong" 421 422 41 2 3 186 181 187 190 427 41 428 (.ref 188) (.ref 189)) ::
(nat_lit 192,fO "refuse_wrong" "refuse_wrong" s_q22 "tieword.webs" 390 191) ::
(nat_lit 198,cO "lesser_first" 430 "lesser_first" 431 432 52 1 3 193 181 194 197 434 52 435 (.ref 195) (.ref 196)) ::
(nat_lit 199,fO "lesser_first" "lesser_first" s_q20 "tieword.webs" 390 198) ::
(nat_lit 205,cO "put_pair" 437 "put_pair" 438 439 56 3 3 200 181 201 204 443 56 444 (.ref 202) (.ref 203)) ::
(nat_lit 206,fO "put_pair" "put_pair" s_q21 "tieword.webs" 390 205) ::
(nat_lit 212,cO "joins_of" 446 "joins_of" 447 448 58 1 3 207 181 208 211 455 58 456 (.ref 209) (.ref 210)) ::
(nat_lit 213,fO "joins_of" "joins_of" s_q5 "tieword.webs" 390 212) ::
(nat_lit 224,cO "__init__" 470 "Web.__init__" 471 472 66 3 3 221 181 222 223 473 66 474) ::
(nat_lit 225,fO "__init__" "Web.__init__" s_q0 "tieword.webs" 390 224) ::
(nat_lit 231,cO "size" 476 "Web.size" 477 478 72 1 3 226 181 227 230 480 72 481 (.ref 228) (.ref 229)) ::
(nat_lit 232,fO "size" "Web.size" s_q1 "tieword.webs" 390 231) ::
(nat_lit 248,{ cls:=.type "dict",data:=.dict #[kE P "__module__" 465 (.str "tieword.webs" 390),kE P "__firstlineno__" 469 (.int 64 468),kE P "__init__" 475 (.ref 225),kE P "size" 482 (.ref 232),kE P "between" 491 (.ref 239),kE P "near" 499 (.ref 246),kE P "__static_attributes__" 503 (.ref 247),kE P "__dict__" 505 (.ref 250),kE P "__weakref__" 507 (.ref 251),kE P "__doc__" 508 (.none)] 4 }) ::
(nat_lit 249,{ cls:=.type "type",data:=.cls { name := "Web",bases:=[.type "object"],mro:=[.ref 249,.type "object"],ns:=248,qualname := "Web" },slots:=#[none,none,some (.str "Web" 458),some (.str "Web" 466),some (.builtin "object.__new__"),some (.bool true)] }) ::
(nat_lit 259,cO "_law_cells" 513 "_law_cells" 514 515 81 3 3 254 181 255 258 519 81 520 (.ref 256) (.ref 257)) ::
(nat_lit 260,fO "_law_cells" "_law_cells" s_q8 "law_tieword_k01_webs" 511 259) ::
(nat_lit 266,cO "_law_mix" 522 "_law_mix" 523 524 83 2 3 261 181 262 265 528 83 529 (.ref 263) (.ref 264)) ::
(nat_lit 267,fO "_law_mix" "_law_mix" s_q12 "law_tieword_k01_webs" 511 266) ::
(nat_lit 273,cO "_law_whole" 531 "_law_whole" 532 533 86 1 3 268 181 269 272 535 86 536 (.ref 270) (.ref 271)) ::
(nat_lit 274,fO "_law_whole" "_law_whole" s_q17 "law_tieword_k01_webs" 511 273) ::
(nat_lit 278,cO "_law_word" 538 "_law_word" 539 540 88 2 3 275 181 276 277 541 88 542) ::
(nat_lit 279,fO "_law_word" "_law_word" s_q18 "law_tieword_k01_webs" 511 278) ::
(nat_lit 285,cO "_law_kind" 544 "_law_kind" 545 546 97 2 3 280 181 281 284 551 97 552 (.ref 282) (.ref 283)) ::
(nat_lit 286,fO "_law_kind" "_law_kind" s_q11 "law_tieword_k01_webs" 511 285) ::
(nat_lit 292,cO "_law_plain" 554 "_law_plain" 555 556 103 1 3 287 181 288 291 563 103 564 (.ref 289) (.ref 290)) ::
(nat_lit 293,fO "_law_plain" "_law_plain" s_q13 "law_tieword_k01_webs" 511 292) ::
(nat_lit 299,cO "_law_tie_is" 566 "_law_tie_is" 567 568 111 2 3 294 181 295 298 571 111 572 (.ref 296) (.ref 297)) ::
(nat_lit 300,fO "_law_tie_is" "_law_tie_is" s_q14 "law_tieword_k01_webs" 511 299) ::
(nat_lit 306,cO "_law_web_is" 574 "_law_web_is" 575 576 115 3 3 301 181 302 305 583 115 584 (.ref 303) (.ref 304)) ::
(nat_lit 307,fO "_law_web_is" "_law_web_is" s_q16 "law_tieword_k01_webs" 511 306) ::
(nat_lit 313,cO "_law_ties" 586 "_law_ties" 587 588 127 3 3 308 181 309 312 599 127 600 (.ref 310) (.ref 311)) ::
(nat_lit 314,fO "_law_ties" "_law_ties" s_q15 "law_tieword_k01_webs" 511 313) ::
(nat_lit 320,cO "_law_bad_tie" 602 "_law_bad_tie" 603 604 141 4 3 315 181 316 319 614 141 615 (.ref 317) (.ref 318)) ::
(nat_lit 321,fO "_law_bad_tie" "_law_bad_tie" s_q7 "law_tieword_k01_webs" 511 320) ::
(nat_lit 325,cO "_law_drawn" 617 "_law_drawn" 618 619 147 1 3 322 181 323 324 620 147 621) ::
(nat_lit 326,fO "_law_drawn" "_law_drawn" s_q9 "law_tieword_k01_webs" 511 325) ::
(nat_lit 332,cO "_law_word_is" 623 "_law_word_is" 624 625 163 1 3 327 181 328 331 628 163 629 (.ref 329) (.ref 330)) ::
(nat_lit 333,fO "_law_word_is" "_law_word_is" s_q19 "law_tieword_k01_webs" 511 332) ::
(nat_lit 339,cO "_law_due" 631 "_law_due" 632 633 168 2 3 334 181 335 338 641 168 642 (.ref 336) (.ref 337)) ::
(nat_lit 340,fO "_law_due" "_law_due" s_q10 "law_tieword_k01_webs" 511 339) ::
(nat_lit 346,cO "law" 644 "law" 645 646 179 1 3 341 181 342 345 658 179 659 (.ref 343) (.ref 344)) ::
(nat_lit 347,fO "law" "law" s_q6 "law_tieword_k01_webs" 511 346)::[]) rfl
theorem all_mk {l:PySem.W.OpenLaw} {w:World} {K:PySem.W.Frag} {h:Heap} {mg:Str→Option Value} {fa C:Addr} {f_q12:Addr} {od_q12 an_q12:Option Addr} {sl_q12:Array (Option Value)} {oc_q12 kV_q12 dc_q12 pm_q12 cd_q12 ct_q12:Value} {f_q18:Addr} {od_q18 an_q18:Option Addr} {sl_q18:Array (Option Value)} {oc_q18 kV_q18 dc_q18 pm_q18 cd_q18 ct_q18:Value} {f_q11:Addr} {od_q11 an_q11:Option Addr} {sl_q11:Array (Option Value)} {oc_q11 kV_q11 dc_q11 pm_q11 cd_q11 ct_q11:Value} {f_q15:Addr} {od_q15 an_q15:Option Addr} {sl_q15:Array (Option Value)} {oc_q15 kV_q15 dc_q15 pm_q15 cd_q15 ct_q15:Value} {f_q7:Addr} {od_q7 an_q7:Option Addr} {sl_q7:Array (Option Value)} {oc_q7 kV_q7 dc_q7 pm_q7 cd_q7 ct_q7:Value} {f_q9:Addr} {od_q9 an_q9:Option Addr} {sl_q9:Array (Option Value)} {oc_q9 kV_q9 dc_q9 pm_q9 cd_q9 ct_q9:Value} {f_q8:Addr} {od_q8 an_q8:Option Addr} {sl_q8:Array (Option Value)} {oc_q8 kV_q8 dc_q8 pm_q8 cd_q8 ct_q8:Value} {f_q2:Addr} {od_q2 an_q2:Option Addr} {sl_q2:Array (Option Value)} {oc_q2 kV_q2 dc_q2 pm_q2 cd_q2 ct_q2:Value} {f_q4:Addr} {od_q4 an_q4:Option Addr} {sl_q4:Array (Option Value)} {oc_q4 kV_q4 dc_q4 pm_q4 cd_q4 ct_q4:Value} {f_q3:Addr} {od_q3 an_q3:Option Addr} {sl_q3:Array (Option Value)} {oc_q3 kV_q3 dc_q3 pm_q3 cd_q3 ct_q3:Value} {f_q22:Addr} {od_q22 an_q22:Option Addr} {sl_q22:Array (Option Value)} {oc_q22 kV_q22 dc_q22 pm_q22 cd_q22 ct_q22:Value} {f_q20:Addr} {od_q20 an_q20:Option Addr} {sl_q20:Array (Option Value)} {oc_q20 kV_q20 dc_q20 pm_q20 cd_q20 ct_q20:Value} {f_q21:Addr} {od_q21 an_q21:Option Addr} {sl_q21:Array (Option Value)} {oc_q21 kV_q21 dc_q21 pm_q21 cd_q21 ct_q21:Value} {f_q5:Addr} {od_q5 an_q5:Option Addr} {sl_q5:Array (Option Value)} {oc_q5 kV_q5 dc_q5 pm_q5 cd_q5 ct_q5:Value} {f_q0:Addr} {od_q0 an_q0:Option Addr} {sl_q0:Array (Option Value)} {oc_q0 kV_q0 dc_q0 pm_q0 cd_q0 ct_q0:Value} {f_q19:Addr} {od_q19 an_q19:Option Addr} {sl_q19:Array (Option Value)} {oc_q19 kV_q19 dc_q19 pm_q19 cd_q19 ct_q19:Value} {f_q10:Addr} {od_q10 an_q10:Option Addr} {sl_q10:Array (Option Value)} {oc_q10 kV_q10 dc_q10 pm_q10 cd_q10 ct_q10:Value} {f_q13:Addr} {od_q13 an_q13:Option Addr} {sl_q13:Array (Option Value)} {oc_q13 kV_q13 dc_q13 pm_q13 cd_q13 ct_q13:Value} {f_q17:Addr} {od_q17 an_q17:Option Addr} {sl_q17:Array (Option Value)} {oc_q17 kV_q17 dc_q17 pm_q17 cd_q17 ct_q17:Value} {f_q14:Addr} {od_q14 an_q14:Option Addr} {sl_q14:Array (Option Value)} {oc_q14 kV_q14 dc_q14 pm_q14 cd_q14 ct_q14:Value} {f_q16:Addr} {od_q16 an_q16:Option Addr} {sl_q16:Array (Option Value)} {oc_q16 kV_q16 dc_q16 pm_q16 cd_q16 ct_q16:Value} {f_q1:Addr} {od_q1 an_q1:Option Addr} {sl_q1:Array (Option Value)} {oc_q1 kV_q1 dc_q1 pm_q1 cd_q1 ct_q1:Value} {f_q6:Addr} {od_q6 an_q6:Option Addr} {sl_q6:Array (Option Value)} {oc_q6 kV_q6 dc_q6 pm_q6 cd_q6 ct_q6:Value} {tk_MOST_PLACES tk_MOST_TIES tk_MOST_LETTERS:Tok} {x_WebError x_TooGreat x_BadPlace x_BadTie x_BadName x_BadOrder x_BadRule x_BadText x_NoWay x_NoWeb x_TooMany x_Twice:Addr} (X:K.In h) (G:h.Ns mainGlobals mg) (hfa:mg "law"=some (.ref fa))
    (aC:PySem.W.nsIn K mainGlobals "Web"=some (some (.ref C)))
    (a_q12:PySem.W.nsIn K mainGlobals "_law_mix"=some (some (.ref f_q12)))
    (l_q12:K.lookup f_q12=some ⟨oc_q12,od_q12,.func (PySem.W.fnOf "_law_mix" "_law_mix" (defArgs s_q12) (defBody s_q12) (defScope s_q12) .none kV_q12 dc_q12 pm_q12 an_q12 cd_q12 ct_q12),sl_q12⟩)
    (c_q12:PySem.W.codeIn K cd_q12 "_law_mix"=true)
    (k_q12:PySem.W.keepIn K (.ref f_q12)=true)
    (a_q18:PySem.W.nsIn K mainGlobals "_law_word"=some (some (.ref f_q18)))
    (l_q18:K.lookup f_q18=some ⟨oc_q18,od_q18,.func (PySem.W.fnOf "_law_word" "_law_word" (defArgs s_q18) (defBody s_q18) (defScope s_q18) .none kV_q18 dc_q18 pm_q18 an_q18 cd_q18 ct_q18),sl_q18⟩)
    (c_q18:PySem.W.codeIn K cd_q18 "_law_word"=true)
    (k_q18:PySem.W.keepIn K (.ref f_q18)=true)
    (a_q11:PySem.W.nsIn K mainGlobals "_law_kind"=some (some (.ref f_q11)))
    (l_q11:K.lookup f_q11=some ⟨oc_q11,od_q11,.func (PySem.W.fnOf "_law_kind" "_law_kind" (defArgs s_q11) (defBody s_q11) (defScope s_q11) .none kV_q11 dc_q11 pm_q11 an_q11 cd_q11 ct_q11),sl_q11⟩)
    (c_q11:PySem.W.codeIn K cd_q11 "_law_kind"=true)
    (k_q11:PySem.W.keepIn K (.ref f_q11)=true)
    (a_q15:PySem.W.nsIn K mainGlobals "_law_ties"=some (some (.ref f_q15)))
    (l_q15:K.lookup f_q15=some ⟨oc_q15,od_q15,.func (PySem.W.fnOf "_law_ties" "_law_ties" (defArgs s_q15) (defBody s_q15) (defScope s_q15) .none kV_q15 dc_q15 pm_q15 an_q15 cd_q15 ct_q15),sl_q15⟩)
    (c_q15:PySem.W.codeIn K cd_q15 "_law_ties"=true)
    (k_q15:PySem.W.keepIn K (.ref f_q15)=true)
    (a_q7:PySem.W.nsIn K mainGlobals "_law_bad_tie"=some (some (.ref f_q7)))
    (l_q7:K.lookup f_q7=some ⟨oc_q7,od_q7,.func (PySem.W.fnOf "_law_bad_tie" "_law_bad_tie" (defArgs s_q7) (defBody s_q7) (defScope s_q7) .none kV_q7 dc_q7 pm_q7 an_q7 cd_q7 ct_q7),sl_q7⟩)
    (c_q7:PySem.W.codeIn K cd_q7 "_law_bad_tie"=true)
    (k_q7:PySem.W.keepIn K (.ref f_q7)=true)
    (a_q9:PySem.W.nsIn K mainGlobals "_law_drawn"=some (some (.ref f_q9)))
    (l_q9:K.lookup f_q9=some ⟨oc_q9,od_q9,.func (PySem.W.fnOf "_law_drawn" "_law_drawn" (defArgs s_q9) (defBody s_q9) (defScope s_q9) .none kV_q9 dc_q9 pm_q9 an_q9 cd_q9 ct_q9),sl_q9⟩)
    (c_q9:PySem.W.codeIn K cd_q9 "_law_drawn"=true)
    (k_q9:PySem.W.keepIn K (.ref f_q9)=true)
    (a_q8:PySem.W.nsIn K mainGlobals "_law_cells"=some (some (.ref f_q8)))
    (l_q8:K.lookup f_q8=some ⟨oc_q8,od_q8,.func (PySem.W.fnOf "_law_cells" "_law_cells" (defArgs s_q8) (defBody s_q8) (defScope s_q8) .none kV_q8 dc_q8 pm_q8 an_q8 cd_q8 ct_q8),sl_q8⟩)
    (c_q8:PySem.W.codeIn K cd_q8 "_law_cells"=true)
    (k_q8:PySem.W.keepIn K (.ref f_q8)=true)
    (a_q2:PySem.W.nsIn K mainGlobals "is_place_kind"=some (some (.ref f_q2)))
    (l_q2:K.lookup f_q2=some ⟨oc_q2,od_q2,.func (PySem.W.fnOf "is_place_kind" "is_place_kind" (defArgs s_q2) (defBody s_q2) (defScope s_q2) .none kV_q2 dc_q2 pm_q2 an_q2 cd_q2 ct_q2),sl_q2⟩)
    (c_q2:PySem.W.codeIn K cd_q2 "is_place_kind"=true)
    (k_q2:PySem.W.keepIn K (.ref f_q2)=true)
    (a_q4:PySem.W.nsIn K mainGlobals "is_tie_kind"=some (some (.ref f_q4)))
    (l_q4:K.lookup f_q4=some ⟨oc_q4,od_q4,.func (PySem.W.fnOf "is_tie_kind" "is_tie_kind" (defArgs s_q4) (defBody s_q4) (defScope s_q4) .none kV_q4 dc_q4 pm_q4 an_q4 cd_q4 ct_q4),sl_q4⟩)
    (c_q4:PySem.W.codeIn K cd_q4 "is_tie_kind"=true)
    (k_q4:PySem.W.keepIn K (.ref f_q4)=true)
    (a_q3:PySem.W.nsIn K mainGlobals "is_tie"=some (some (.ref f_q3)))
    (l_q3:K.lookup f_q3=some ⟨oc_q3,od_q3,.func (PySem.W.fnOf "is_tie" "is_tie" (defArgs s_q3) (defBody s_q3) (defScope s_q3) .none kV_q3 dc_q3 pm_q3 an_q3 cd_q3 ct_q3),sl_q3⟩)
    (c_q3:PySem.W.codeIn K cd_q3 "is_tie"=true)
    (k_q3:PySem.W.keepIn K (.ref f_q3)=true)
    (a_q22:PySem.W.nsIn K mainGlobals "refuse_wrong"=some (some (.ref f_q22)))
    (l_q22:K.lookup f_q22=some ⟨oc_q22,od_q22,.func (PySem.W.fnOf "refuse_wrong" "refuse_wrong" (defArgs s_q22) (defBody s_q22) (defScope s_q22) .none kV_q22 dc_q22 pm_q22 an_q22 cd_q22 ct_q22),sl_q22⟩)
    (c_q22:PySem.W.codeIn K cd_q22 "refuse_wrong"=true)
    (k_q22:PySem.W.keepIn K (.ref f_q22)=true)
    (a_q20:PySem.W.nsIn K mainGlobals "lesser_first"=some (some (.ref f_q20)))
    (l_q20:K.lookup f_q20=some ⟨oc_q20,od_q20,.func (PySem.W.fnOf "lesser_first" "lesser_first" (defArgs s_q20) (defBody s_q20) (defScope s_q20) .none kV_q20 dc_q20 pm_q20 an_q20 cd_q20 ct_q20),sl_q20⟩)
    (c_q20:PySem.W.codeIn K cd_q20 "lesser_first"=true)
    (k_q20:PySem.W.keepIn K (.ref f_q20)=true)
    (a_q21:PySem.W.nsIn K mainGlobals "put_pair"=some (some (.ref f_q21)))
    (l_q21:K.lookup f_q21=some ⟨oc_q21,od_q21,.func (PySem.W.fnOf "put_pair" "put_pair" (defArgs s_q21) (defBody s_q21) (defScope s_q21) .none kV_q21 dc_q21 pm_q21 an_q21 cd_q21 ct_q21),sl_q21⟩)
    (c_q21:PySem.W.codeIn K cd_q21 "put_pair"=true)
    (k_q21:PySem.W.keepIn K (.ref f_q21)=true)
    (a_q5:PySem.W.nsIn K mainGlobals "joins_of"=some (some (.ref f_q5)))
    (l_q5:K.lookup f_q5=some ⟨oc_q5,od_q5,.func (PySem.W.fnOf "joins_of" "joins_of" (defArgs s_q5) (defBody s_q5) (defScope s_q5) .none kV_q5 dc_q5 pm_q5 an_q5 cd_q5 ct_q5),sl_q5⟩)
    (c_q5:PySem.W.codeIn K cd_q5 "joins_of"=true)
    (k_q5:PySem.W.keepIn K (.ref f_q5)=true)
    (a_q0:PySem.W.findIn K (.ref C) "__init__"=some (some (.ref f_q0)))
    (i_q0:PySem.W.isFn K (.ref f_q0)=true)
    (l_q0:K.lookup f_q0=some ⟨oc_q0,od_q0,.func (PySem.W.fnOf "__init__" "Web.__init__" (defArgs s_q0) (defBody s_q0) (defScope s_q0) .none kV_q0 dc_q0 pm_q0 an_q0 cd_q0 ct_q0),sl_q0⟩)
    (c_q0:PySem.W.codeIn K cd_q0 "Web.__init__"=true)
    (k_q0:PySem.W.keepIn K (.ref f_q0)=true)
    (a_q19:PySem.W.nsIn K mainGlobals "_law_word_is"=some (some (.ref f_q19)))
    (l_q19:K.lookup f_q19=some ⟨oc_q19,od_q19,.func (PySem.W.fnOf "_law_word_is" "_law_word_is" (defArgs s_q19) (defBody s_q19) (defScope s_q19) .none kV_q19 dc_q19 pm_q19 an_q19 cd_q19 ct_q19),sl_q19⟩)
    (c_q19:PySem.W.codeIn K cd_q19 "_law_word_is"=true)
    (k_q19:PySem.W.keepIn K (.ref f_q19)=true)
    (a_q10:PySem.W.nsIn K mainGlobals "_law_due"=some (some (.ref f_q10)))
    (l_q10:K.lookup f_q10=some ⟨oc_q10,od_q10,.func (PySem.W.fnOf "_law_due" "_law_due" (defArgs s_q10) (defBody s_q10) (defScope s_q10) .none kV_q10 dc_q10 pm_q10 an_q10 cd_q10 ct_q10),sl_q10⟩)
    (c_q10:PySem.W.codeIn K cd_q10 "_law_due"=true)
    (k_q10:PySem.W.keepIn K (.ref f_q10)=true)
    (a_q13:PySem.W.nsIn K mainGlobals "_law_plain"=some (some (.ref f_q13)))
    (l_q13:K.lookup f_q13=some ⟨oc_q13,od_q13,.func (PySem.W.fnOf "_law_plain" "_law_plain" (defArgs s_q13) (defBody s_q13) (defScope s_q13) .none kV_q13 dc_q13 pm_q13 an_q13 cd_q13 ct_q13),sl_q13⟩)
    (c_q13:PySem.W.codeIn K cd_q13 "_law_plain"=true)
    (k_q13:PySem.W.keepIn K (.ref f_q13)=true)
    (a_q17:PySem.W.nsIn K mainGlobals "_law_whole"=some (some (.ref f_q17)))
    (l_q17:K.lookup f_q17=some ⟨oc_q17,od_q17,.func (PySem.W.fnOf "_law_whole" "_law_whole" (defArgs s_q17) (defBody s_q17) (defScope s_q17) .none kV_q17 dc_q17 pm_q17 an_q17 cd_q17 ct_q17),sl_q17⟩)
    (c_q17:PySem.W.codeIn K cd_q17 "_law_whole"=true)
    (k_q17:PySem.W.keepIn K (.ref f_q17)=true)
    (a_q14:PySem.W.nsIn K mainGlobals "_law_tie_is"=some (some (.ref f_q14)))
    (l_q14:K.lookup f_q14=some ⟨oc_q14,od_q14,.func (PySem.W.fnOf "_law_tie_is" "_law_tie_is" (defArgs s_q14) (defBody s_q14) (defScope s_q14) .none kV_q14 dc_q14 pm_q14 an_q14 cd_q14 ct_q14),sl_q14⟩)
    (c_q14:PySem.W.codeIn K cd_q14 "_law_tie_is"=true)
    (k_q14:PySem.W.keepIn K (.ref f_q14)=true)
    (a_q16:PySem.W.nsIn K mainGlobals "_law_web_is"=some (some (.ref f_q16)))
    (l_q16:K.lookup f_q16=some ⟨oc_q16,od_q16,.func (PySem.W.fnOf "_law_web_is" "_law_web_is" (defArgs s_q16) (defBody s_q16) (defScope s_q16) .none kV_q16 dc_q16 pm_q16 an_q16 cd_q16 ct_q16),sl_q16⟩)
    (c_q16:PySem.W.codeIn K cd_q16 "_law_web_is"=true)
    (k_q16:PySem.W.keepIn K (.ref f_q16)=true)
    (a_q1:PySem.W.findIn K (.ref C) "size"=some (some (.ref f_q1)))
    (i_q1:PySem.W.isFn K (.ref f_q1)=true)
    (l_q1:K.lookup f_q1=some ⟨oc_q1,od_q1,.func (PySem.W.fnOf "size" "Web.size" (defArgs s_q1) (defBody s_q1) (defScope s_q1) .none kV_q1 dc_q1 pm_q1 an_q1 cd_q1 ct_q1),sl_q1⟩)
    (c_q1:PySem.W.codeIn K cd_q1 "Web.size"=true)
    (k_q1:PySem.W.keepIn K (.ref f_q1)=true)
    (a_q6:PySem.W.nsIn K mainGlobals "law"=some (some (.ref f_q6)))
    (l_q6:K.lookup f_q6=some ⟨oc_q6,od_q6,.func (PySem.W.fnOf "law" "law" (defArgs s_q6) (defBody s_q6) (defScope s_q6) .none kV_q6 dc_q6 pm_q6 an_q6 cd_q6 ct_q6),sl_q6⟩)
    (c_q6:PySem.W.codeIn K cd_q6 "law"=true)
    (k_q6:PySem.W.keepIn K (.ref f_q6)=true)
    (pg:PySem.W.plainGet K C Str.empty=true)
    (hd:PySem.W.hasDictIn K C=true)
    (po:PySem.W.plainOver K C=true)
    (sa:PySem.W.findIn K (.ref C) "__setattr__"=some (some (.builtin "object.__setattr__")))
    (mkc:PySem.W.makesIn K C=true)
    (kc:PySem.W.keepIn K (.ref C)=true)
    (n_joins:PySem.W.findIn K (.ref C) "joins"=some none)
    (n_kinds:PySem.W.findIn K (.ref C) "kinds"=some none)
    (n_ties:PySem.W.findIn K (.ref C) "ties"=some none)
    (z_ValueError:PySem.W.nsIn K mainGlobals "ValueError"=some none)
    (z_all:PySem.W.nsIn K mainGlobals "all"=some none)
    (z_bool:PySem.W.nsIn K mainGlobals "bool"=some none)
    (z_int:PySem.W.nsIn K mainGlobals "int"=some none)
    (z_isinstance:PySem.W.nsIn K mainGlobals "isinstance"=some none)
    (z_len:PySem.W.nsIn K mainGlobals "len"=some none)
    (z_list:PySem.W.nsIn K mainGlobals "list"=some none)
    (z_max:PySem.W.nsIn K mainGlobals "max"=some none)
    (z_min:PySem.W.nsIn K mainGlobals "min"=some none)
    (z_range:PySem.W.nsIn K mainGlobals "range"=some none)
    (z_sorted:PySem.W.nsIn K mainGlobals "sorted"=some none)
    (z_str:PySem.W.nsIn K mainGlobals "str"=some none)
    (z_tuple:PySem.W.nsIn K mainGlobals "tuple"=some none)
    (z_zip:PySem.W.nsIn K mainGlobals "zip"=some none)
    (t_MOST_PLACES:PySem.W.nsIn K mainGlobals "MOST_PLACES"=some (some (.int 7 tk_MOST_PLACES)))
    (t_MOST_TIES:PySem.W.nsIn K mainGlobals "MOST_TIES"=some (some (.int 12 tk_MOST_TIES)))
    (t_MOST_LETTERS:PySem.W.nsIn K mainGlobals "MOST_LETTERS"=some (some (.int 3 tk_MOST_LETTERS)))
    (hn:PySem.W.specialIn K (.builtin "object.__class__") "__get__"=some (some (.builtin "getset_descriptor.__get__")))
    (htk:PySem.W.takesIn K (.builtin "object.__class__")=some true)
    (iha:PySem.W.findIn K (.ref C) "__class__"=some (some (.builtin "object.__class__")))
    (ihm:PySem.W.mroIn K C (.type "object")=some true)
    (iko:PySem.W.kitOne K (.ref C) (.ref C)=some true)
    (m_WebError:PySem.W.nsIn K mainGlobals "WebError"=some (some (.ref x_WebError)))
    (m_TooGreat:PySem.W.nsIn K mainGlobals "TooGreat"=some (some (.ref x_TooGreat)))
    (m_BadPlace:PySem.W.nsIn K mainGlobals "BadPlace"=some (some (.ref x_BadPlace)))
    (m_BadTie:PySem.W.nsIn K mainGlobals "BadTie"=some (some (.ref x_BadTie)))
    (m_BadName:PySem.W.nsIn K mainGlobals "BadName"=some (some (.ref x_BadName)))
    (m_BadOrder:PySem.W.nsIn K mainGlobals "BadOrder"=some (some (.ref x_BadOrder)))
    (m_BadRule:PySem.W.nsIn K mainGlobals "BadRule"=some (some (.ref x_BadRule)))
    (m_BadText:PySem.W.nsIn K mainGlobals "BadText"=some (some (.ref x_BadText)))
    (m_NoWay:PySem.W.nsIn K mainGlobals "NoWay"=some (some (.ref x_NoWay)))
    (m_NoWeb:PySem.W.nsIn K mainGlobals "NoWeb"=some (some (.ref x_NoWeb)))
    (m_TooMany:PySem.W.nsIn K mainGlobals "TooMany"=some (some (.ref x_TooMany)))
    (m_Twice:PySem.W.nsIn K mainGlobals "Twice"=some (some (.ref x_Twice)))
    (xga0:PySem.W.findIn K (.ref x_TooGreat) "__getattribute__"=some (some (.builtin "BaseException.__getattribute__")))
    (xno0:PySem.W.findIn K (.ref x_TooGreat) "__getattr__"=some none)
    (xha0:PySem.W.findIn K (.ref x_TooGreat) "__class__"=some (some (.builtin "object.__class__")))
    (xhm0:PySem.W.mroIn K x_TooGreat (.type "object")=some true)
    (xhb0:PySem.W.mroIn K x_TooGreat (.type "BaseException")=some true)
    (xk00:PySem.W.kitOne K (.ref x_TooGreat) (.ref x_TooGreat)=some true)
    (xk01:PySem.W.kitOne K (.ref x_TooGreat) (.ref x_BadPlace)=some false)
    (xk02:PySem.W.kitOne K (.ref x_TooGreat) (.ref x_BadTie)=some false)
    (xv0:PySem.W.kitOne K (.ref x_TooGreat) (.type "ValueError")=some true)
    (xo0:PySem.W.kitAny K (.ref x_TooGreat) [.ref x_BadName,.ref x_BadOrder,.ref x_BadRule,.ref x_BadText,.ref x_NoWay,.ref x_NoWeb,.ref x_TooMany,.ref x_Twice]=some false)
    (xxm0:PySem.W.exmOne K (.ref x_TooGreat) (.ref x_WebError)=some true)
    (xxi0:PySem.W.excIn K x_TooGreat vErr "ValueError.__new__"=true)
    (xga1:PySem.W.findIn K (.ref x_BadPlace) "__getattribute__"=some (some (.builtin "BaseException.__getattribute__")))
    (xno1:PySem.W.findIn K (.ref x_BadPlace) "__getattr__"=some none)
    (xha1:PySem.W.findIn K (.ref x_BadPlace) "__class__"=some (some (.builtin "object.__class__")))
    (xhm1:PySem.W.mroIn K x_BadPlace (.type "object")=some true)
    (xhb1:PySem.W.mroIn K x_BadPlace (.type "BaseException")=some true)
    (xk10:PySem.W.kitOne K (.ref x_BadPlace) (.ref x_TooGreat)=some false)
    (xk11:PySem.W.kitOne K (.ref x_BadPlace) (.ref x_BadPlace)=some true)
    (xk12:PySem.W.kitOne K (.ref x_BadPlace) (.ref x_BadTie)=some false)
    (xv1:PySem.W.kitOne K (.ref x_BadPlace) (.type "ValueError")=some true)
    (xo1:PySem.W.kitAny K (.ref x_BadPlace) [.ref x_BadName,.ref x_BadOrder,.ref x_BadRule,.ref x_BadText,.ref x_NoWay,.ref x_NoWeb,.ref x_TooMany,.ref x_Twice]=some false)
    (xxm1:PySem.W.exmOne K (.ref x_BadPlace) (.ref x_WebError)=some true)
    (xxi1:PySem.W.excIn K x_BadPlace vErr "ValueError.__new__"=true)
    (xga2:PySem.W.findIn K (.ref x_BadTie) "__getattribute__"=some (some (.builtin "BaseException.__getattribute__")))
    (xno2:PySem.W.findIn K (.ref x_BadTie) "__getattr__"=some none)
    (xha2:PySem.W.findIn K (.ref x_BadTie) "__class__"=some (some (.builtin "object.__class__")))
    (xhm2:PySem.W.mroIn K x_BadTie (.type "object")=some true)
    (xhb2:PySem.W.mroIn K x_BadTie (.type "BaseException")=some true)
    (xk20:PySem.W.kitOne K (.ref x_BadTie) (.ref x_TooGreat)=some false)
    (xk21:PySem.W.kitOne K (.ref x_BadTie) (.ref x_BadPlace)=some false)
    (xk22:PySem.W.kitOne K (.ref x_BadTie) (.ref x_BadTie)=some true)
    (xv2:PySem.W.kitOne K (.ref x_BadTie) (.type "ValueError")=some true)
    (xo2:PySem.W.kitAny K (.ref x_BadTie) [.ref x_BadName,.ref x_BadOrder,.ref x_BadRule,.ref x_BadText,.ref x_NoWay,.ref x_NoWeb,.ref x_TooMany,.ref x_Twice]=some false)
    (xxm2:PySem.W.exmOne K (.ref x_BadTie) (.ref x_WebError)=some true)
    (xxi2:PySem.W.excIn K x_BadTie vErr "ValueError.__new__"=true) :
    ∃ fd:FuncData,(∀ (s:Shared) (v:Value),BindsTo s fd ⟨[v],[]⟩ [("_law_script",v)])∧∀ base:Heap,K.In base→base.Ns mainGlobals mg→FnOk l.prog w K mg base CX0 6 fa fd ["_law_script"] (spLaw K):=by
  have e:=hfa.symm.trans (PySem.W.mg_of X G a_q6)
  cases e
  have F_q12:=fun_mk (st:=s_q12) l_q12 c_q12 k_q12
  have B_q12:=F_q12.binds (ps:=["_law_cell", "_law_k"]) fun _ _ _ _ _ _ us hl=>by obtain ⟨v0,v1,rfl⟩:=len_2 hl; rfl
  have F_q18:=fun_mk (st:=s_q18) l_q18 c_q18 k_q18
  have B_q18:=F_q18.binds (ps:=["_law_seed", "_law_which"]) fun _ _ _ _ _ _ us hl=>by obtain ⟨v0,v1,rfl⟩:=len_2 hl; rfl
  have F_q11:=fun_mk (st:=s_q11) l_q11 c_q11 k_q11
  have B_q11:=F_q11.binds (ps:=["_law_cell", "_law_seed"]) fun _ _ _ _ _ _ us hl=>by obtain ⟨v0,v1,rfl⟩:=len_2 hl; rfl
  have F_q15:=fun_mk (st:=s_q15) l_q15 c_q15 k_q15
  have B_q15:=F_q15.binds (ps:=["_law_cells_here", "_law_seed", "_law_many"]) fun _ _ _ _ _ _ us hl=>by obtain ⟨v0,v1,v2,rfl⟩:=len_3 hl; rfl
  have F_q7:=fun_mk (st:=s_q7) l_q7 c_q7 k_q7
  have B_q7:=F_q7.binds (ps:=["_law_tie", "_law_many", "_law_far", "_law_how"]) fun _ _ _ _ _ _ us hl=>by obtain ⟨v0,v1,v2,v3,rfl⟩:=len_4 hl; rfl
  have F_q9:=fun_mk (st:=s_q9) l_q9 c_q9 k_q9
  have B_q9:=F_q9.binds (ps:=["_law_cells_here"]) fun _ _ _ _ _ _ us hl=>by obtain ⟨v0,rfl⟩:=len_1 hl; rfl
  have F_q8:=fun_mk (st:=s_q8) l_q8 c_q8 k_q8
  have B_q8:=F_q8.binds (ps:=["_law_script", "_law_at", "_law_many"]) fun _ _ _ _ _ _ us hl=>by obtain ⟨v0,v1,v2,rfl⟩:=len_3 hl; rfl
  have F_q2:=fun_mk (st:=s_q2) l_q2 c_q2 k_q2
  have B_q2:=F_q2.binds (ps:=["kind"]) fun _ _ _ _ _ _ us hl=>by obtain ⟨v0,rfl⟩:=len_1 hl; rfl
  have F_q4:=fun_mk (st:=s_q4) l_q4 c_q4 k_q4
  have B_q4:=F_q4.binds (ps:=["kind"]) fun _ _ _ _ _ _ us hl=>by obtain ⟨v0,rfl⟩:=len_1 hl; rfl
  have F_q3:=fun_mk (st:=s_q3) l_q3 c_q3 k_q3
  have B_q3:=F_q3.binds (ps:=["tie", "size"]) fun _ _ _ _ _ _ us hl=>by obtain ⟨v0,v1,rfl⟩:=len_2 hl; rfl
  have F_q22:=fun_mk (st:=s_q22) l_q22 c_q22 k_q22
  have B_q22:=F_q22.binds (ps:=["kinds", "ties"]) fun _ _ _ _ _ _ us hl=>by obtain ⟨v0,v1,rfl⟩:=len_2 hl; rfl
  have F_q20:=fun_mk (st:=s_q20) l_q20 c_q20 k_q20
  have B_q20:=F_q20.binds (ps:=["tie"]) fun _ _ _ _ _ _ us hl=>by obtain ⟨v0,rfl⟩:=len_1 hl; rfl
  have F_q21:=fun_mk (st:=s_q21) l_q21 c_q21 k_q21
  have B_q21:=F_q21.binds (ps:=["joins", "ends", "pair"]) fun _ _ _ _ _ _ us hl=>by obtain ⟨v0,v1,v2,rfl⟩:=len_3 hl; rfl
  have F_q5:=fun_mk (st:=s_q5) l_q5 c_q5 k_q5
  have B_q5:=F_q5.binds (ps:=["ties"]) fun _ _ _ _ _ _ us hl=>by obtain ⟨v0,rfl⟩:=len_1 hl; rfl
  have F_q0:=fun_mk (st:=s_q0) l_q0 c_q0 k_q0
  have B_q0:=F_q0.binds (ps:=["self", "kinds", "ties"]) fun _ _ _ _ _ _ us hl=>by obtain ⟨v0,v1,v2,rfl⟩:=len_3 hl; rfl
  have F_q19:=fun_mk (st:=s_q19) l_q19 c_q19 k_q19
  have B_q19:=F_q19.binds (ps:=["_law_kind_here"]) fun _ _ _ _ _ _ us hl=>by obtain ⟨v0,rfl⟩:=len_1 hl; rfl
  have F_q10:=fun_mk (st:=s_q10) l_q10 c_q10 k_q10
  have B_q10:=F_q10.binds (ps:=["_law_kinds", "_law_ties_here"]) fun _ _ _ _ _ _ us hl=>by obtain ⟨v0,v1,rfl⟩:=len_2 hl; rfl
  have F_q13:=fun_mk (st:=s_q13) l_q13 c_q13 k_q13
  have B_q13:=F_q13.binds (ps:=["_law_ties_here"]) fun _ _ _ _ _ _ us hl=>by obtain ⟨v0,rfl⟩:=len_1 hl; rfl
  have F_q17:=fun_mk (st:=s_q17) l_q17 c_q17 k_q17
  have B_q17:=F_q17.binds (ps:=["_law_found"]) fun _ _ _ _ _ _ us hl=>by obtain ⟨v0,rfl⟩:=len_1 hl; rfl
  have F_q14:=fun_mk (st:=s_q14) l_q14 c_q14 k_q14
  have B_q14:=F_q14.binds (ps:=["_law_found", "_law_due_here"]) fun _ _ _ _ _ _ us hl=>by obtain ⟨v0,v1,rfl⟩:=len_2 hl; rfl
  have F_q16:=fun_mk (st:=s_q16) l_q16 c_q16 k_q16
  have B_q16:=F_q16.binds (ps:=["_law_web", "_law_kinds", "_law_ties_here"]) fun _ _ _ _ _ _ us hl=>by obtain ⟨v0,v1,v2,rfl⟩:=len_3 hl; rfl
  have F_q1:=fun_mk (st:=s_q1) l_q1 c_q1 k_q1
  have B_q1:=F_q1.binds (ps:=["self"]) fun _ _ _ _ _ _ us hl=>by obtain ⟨v0,rfl⟩:=len_1 hl; rfl
  have F_q6:=fun_mk (st:=s_q6) l_q6 c_q6 k_q6
  have B_q6:=F_q6.binds (ps:=["_law_script"]) fun _ _ _ _ _ _ us hl=>by obtain ⟨v0,rfl⟩:=len_1 hl; rfl
  have T:Txt K mg ⟨C,f_q12,_,f_q18,_,f_q11,_,f_q15,_,f_q7,_,f_q9,_,f_q8,_,f_q2,_,f_q4,_,f_q3,_,f_q22,_,f_q20,_,f_q21,_,f_q5,_,f_q0,_,f_q19,_,f_q10,_,f_q13,_,f_q17,_,f_q14,_,f_q16,_,f_q1,_,fa,_,tk_MOST_PLACES,tk_MOST_TIES,tk_MOST_LETTERS,x_WebError,x_TooGreat,x_BadPlace,x_BadTie,x_BadName,x_BadOrder,x_BadRule,x_BadText,x_NoWay,x_NoWeb,x_TooMany,x_Twice⟩:={
    cl:=⟨pg,hd,po,sa⟩
    mkC:=⟨mkc,a_q0,i_q0,kc⟩
    mgC:=PySem.W.mg_of X G aC
    na_joins:=n_joins
    na_kinds:=n_kinds
    na_ties:=n_ties
    fn_q12:=F_q12
    bd_q12:=B_q12
    g_q12:=PySem.W.mg_of X G a_q12
    fn_q18:=F_q18
    bd_q18:=B_q18
    g_q18:=PySem.W.mg_of X G a_q18
    fn_q11:=F_q11
    bd_q11:=B_q11
    g_q11:=PySem.W.mg_of X G a_q11
    fn_q15:=F_q15
    bd_q15:=B_q15
    g_q15:=PySem.W.mg_of X G a_q15
    fn_q7:=F_q7
    bd_q7:=B_q7
    g_q7:=PySem.W.mg_of X G a_q7
    fn_q9:=F_q9
    bd_q9:=B_q9
    g_q9:=PySem.W.mg_of X G a_q9
    fn_q8:=F_q8
    bd_q8:=B_q8
    g_q8:=PySem.W.mg_of X G a_q8
    fn_q2:=F_q2
    bd_q2:=B_q2
    g_q2:=PySem.W.mg_of X G a_q2
    fn_q4:=F_q4
    bd_q4:=B_q4
    g_q4:=PySem.W.mg_of X G a_q4
    fn_q3:=F_q3
    bd_q3:=B_q3
    g_q3:=PySem.W.mg_of X G a_q3
    fn_q22:=F_q22
    bd_q22:=B_q22
    g_q22:=PySem.W.mg_of X G a_q22
    fn_q20:=F_q20
    bd_q20:=B_q20
    g_q20:=PySem.W.mg_of X G a_q20
    fn_q21:=F_q21
    bd_q21:=B_q21
    g_q21:=PySem.W.mg_of X G a_q21
    fn_q5:=F_q5
    bd_q5:=B_q5
    g_q5:=PySem.W.mg_of X G a_q5
    fn_q0:=F_q0
    bd_q0:=B_q0
    fn_q19:=F_q19
    bd_q19:=B_q19
    g_q19:=PySem.W.mg_of X G a_q19
    fn_q10:=F_q10
    bd_q10:=B_q10
    g_q10:=PySem.W.mg_of X G a_q10
    fn_q13:=F_q13
    bd_q13:=B_q13
    g_q13:=PySem.W.mg_of X G a_q13
    fn_q17:=F_q17
    bd_q17:=B_q17
    g_q17:=PySem.W.mg_of X G a_q17
    fn_q14:=F_q14
    bd_q14:=B_q14
    g_q14:=PySem.W.mg_of X G a_q14
    fn_q16:=F_q16
    bd_q16:=B_q16
    g_q16:=PySem.W.mg_of X G a_q16
    fn_q1:=F_q1
    bd_q1:=B_q1
    mt_q1:=⟨a_q1,i_q1,k_q1⟩
    fn_q6:=F_q6
    bd_q6:=B_q6
    g_q6:=PySem.W.mg_of X G a_q6
    b_ValueError:=PySem.W.mg_none_of X G z_ValueError
    b_all:=PySem.W.mg_none_of X G z_all
    b_bool:=PySem.W.mg_none_of X G z_bool
    b_int:=PySem.W.mg_none_of X G z_int
    b_isinstance:=PySem.W.mg_none_of X G z_isinstance
    b_len:=PySem.W.mg_none_of X G z_len
    b_list:=PySem.W.mg_none_of X G z_list
    b_max:=PySem.W.mg_none_of X G z_max
    b_min:=PySem.W.mg_none_of X G z_min
    b_range:=PySem.W.mg_none_of X G z_range
    b_sorted:=PySem.W.mg_none_of X G z_sorted
    b_str:=PySem.W.mg_none_of X G z_str
    b_tuple:=PySem.W.mg_none_of X G z_tuple
    b_zip:=PySem.W.mg_none_of X G z_zip
    c_MOST_PLACES:=PySem.W.mg_of X G t_MOST_PLACES
    c_MOST_TIES:=PySem.W.mg_of X G t_MOST_TIES
    c_MOST_LETTERS:=PySem.W.mg_of X G t_MOST_LETTERS
    icC:=⟨iha,hn,htk,ihm,iko⟩
    mx_WebError:=PySem.W.mg_of X G m_WebError
    mx_TooGreat:=PySem.W.mg_of X G m_TooGreat
    mx_BadPlace:=PySem.W.mg_of X G m_BadPlace
    mx_BadTie:=PySem.W.mg_of X G m_BadTie
    mx_BadName:=PySem.W.mg_of X G m_BadName
    mx_BadOrder:=PySem.W.mg_of X G m_BadOrder
    mx_BadRule:=PySem.W.mg_of X G m_BadRule
    mx_BadText:=PySem.W.mg_of X G m_BadText
    mx_NoWay:=PySem.W.mg_of X G m_NoWay
    mx_NoWeb:=PySem.W.mg_of X G m_NoWeb
    mx_TooMany:=PySem.W.mg_of X G m_TooMany
    mx_Twice:=PySem.W.mg_of X G m_Twice
    exC:=fun k=>match k with | 0=>⟨xga0,xno0,xha0,hn,htk,xhm0,xhb0⟩ | 1=>⟨xga1,xno1,xha1,hn,htk,xhm1,xhb1⟩ | _ + 2=>⟨xga2,xno2,xha2,hn,htk,xhm2,xhb2⟩
    k0:=fun k=>match k with | 0=>(xk00.trans (congrArg some (by simp))) | 1=>(xk10.trans (congrArg some (by simp))) | _ + 2=>(xk20.trans (congrArg some (by simp)))
    k1:=fun k=>match k with | 0=>(xk01.trans (congrArg some (by simp))) | 1=>(xk11.trans (congrArg some (by simp))) | _ + 2=>(xk21.trans (congrArg some (by simp)))
    k2:=fun k=>match k with | 0=>(xk02.trans (congrArg some (by simp))) | 1=>(xk12.trans (congrArg some (by simp))) | _ + 2=>(xk22.trans (congrArg some (by simp)))
    k3:=fun k=>match k with | 0=>xv0 | 1=>xv1 | _ + 2=>xv2
    k4:=fun k=>match k with | 0=>xo0 | 1=>xo1 | _ + 2=>xo2
    xm:=fun k=>match k with | 0=>xxm0 | 1=>xxm1 | _ + 2=>xxm2
    xi:=fun k=>match k with | 0=>xxi0 | 1=>xxi1 | _ + 2=>xxi2 }
  exact ⟨_,fun s v=>.of_eq rfl,fun base _ _=>(ok_q6 T).imp (spLaw_imp (law_true _))⟩
end My
theorem PySem.W.Fast.tw721758660403713184:True:=trivial
theorem PySem.W.Fast.tw8743944918693807264:True:=trivial
theorem PySem.W.Fast.tw846242812547232032:True:=trivial
theorem PySem.W.Fast.tw12421591775601565152:True:=trivial
theorem PySem.W.Fast.tw856808666910375616:True:=trivial
theorem PySem.W.Fast.tw1050543002815879072:True:=trivial
theorem PySem.W.Fast.tw13409789574756901856:True:=trivial
theorem PySem.W.Fast.tw9560517180378914913:True:=trivial
theorem PySem.W.Fast.tw8445653883307912353:True:=trivial
theorem PySem.W.Fast.tw18008393319689294049:True:=trivial
theorem PySem.W.Fast.tw18376537875859904769:True:=trivial
theorem PySem.W.Fast.tw5999759256626637057:True:=trivial
theorem PySem.W.Fast.tw6955767242850464193:True:=trivial
theorem PySem.W.Fast.tw14268065211354630913:True:=trivial
theorem PySem.W.Fast.tw17374569629533274242:True:=trivial
theorem PySem.W.Fast.tw6211069107728348290:True:=trivial
theorem PySem.W.Fast.tw15401030528791295234:True:=trivial
theorem PySem.W.Fast.tw13208275091590923554:True:=trivial
theorem PySem.W.Fast.tw3869056227958525250:True:=trivial
theorem PySem.W.Fast.tw8466585039347163586:True:=trivial
theorem PySem.W.Fast.tw7281462984679808482:True:=trivial
theorem PySem.W.Fast.tw4951425053410100930:True:=trivial
theorem PySem.W.Fast.tw2264976947658702690:True:=trivial
theorem PySem.W.Fast.tw16760011442368017411:True:=trivial
theorem PySem.W.Fast.tw1561797908231727267:True:=trivial
theorem PySem.W.Fast.tw9848688145514912995:True:=trivial
theorem PySem.W.Fast.tw14000063301701180643:True:=trivial
theorem PySem.W.Fast.tw983775487738010275:True:=trivial
theorem PySem.W.Fast.tw16030499353969986275:True:=trivial
theorem PySem.W.Fast.tw4529137995658829635:True:=trivial
theorem PySem.W.Fast.tw12515806000297467108:True:=trivial
theorem PySem.W.Fast.tw3006555194954119428:True:=trivial
theorem PySem.W.Fast.tw8800438299538997540:True:=trivial
theorem PySem.W.Fast.tw7950736132453894660:True:=trivial
theorem PySem.W.Fast.tw697989217047987940:True:=trivial
theorem PySem.W.Fast.tw14649840028502793028:True:=trivial
theorem PySem.W.Fast.tw18223827566206948421:True:=trivial
theorem PySem.W.Fast.tw10395298993614441605:True:=trivial
theorem PySem.W.Fast.tw7109564231715571845:True:=trivial
theorem PySem.W.Fast.tw10571515105210825893:True:=trivial
theorem PySem.W.Fast.tw7046486832207447493:True:=trivial
theorem PySem.W.Fast.tw42990241125569061:True:=trivial
theorem PySem.W.Fast.tw13780070168046961221:True:=trivial
theorem PySem.W.Fast.tw5945651230172781189:True:=trivial
theorem PySem.W.Fast.tw7546465542251429:True:=trivial
theorem PySem.W.Fast.tw7331228746719051717:True:=trivial
theorem PySem.W.Fast.tw13387796713054068934:True:=trivial
theorem PySem.W.Fast.tw5788176345277594854:True:=trivial
theorem PySem.W.Fast.tw3932180341882245446:True:=trivial
theorem PySem.W.Fast.tw3657640047130640966:True:=trivial
theorem PySem.W.Fast.tw5336478893115594374:True:=trivial
theorem PySem.W.Fast.tw10576482111364140806:True:=trivial
theorem PySem.W.Fast.tw15291626137371671430:True:=trivial
theorem PySem.W.Fast.tw15835644465099185062:True:=trivial
theorem PySem.W.Fast.tw5188455923311485959:True:=trivial
theorem PySem.W.Fast.tw16321329646485100551:True:=trivial
theorem PySem.W.Fast.tw4525562142337884167:True:=trivial
theorem PySem.W.Fast.tw15844977130466562119:True:=trivial
theorem PySem.W.Fast.tw16549606615417316551:True:=trivial
theorem PySem.W.Fast.tw569033082257714407:True:=trivial
theorem PySem.W.Fast.tw4298147698277783015:True:=trivial
theorem PySem.W.Fast.tw14675983534268749319:True:=trivial
theorem PySem.W.Fast.tw246166255920821895:True:=trivial
theorem PySem.W.Fast.tw11347671385705275047:True:=trivial
theorem PySem.W.Fast.tw3608303205448202919:True:=trivial
theorem PySem.W.Fast.tw9819737717418793735:True:=trivial
theorem PySem.W.Fast.tw1369343101199454376:True:=trivial
theorem PySem.W.Fast.tw10357972650783162568:True:=trivial
theorem PySem.W.Fast.tw5407756386404895016:True:=trivial
theorem PySem.W.Fast.tw4165352967523816776:True:=trivial
theorem PySem.W.Fast.tw4952984692968892776:True:=trivial
theorem PySem.W.Fast.tw18008733314964357512:True:=trivial
theorem PySem.W.Fast.tw12925146071012483560:True:=trivial
theorem PySem.W.Fast.tw855102089168415304:True:=trivial
theorem PySem.W.Fast.tw16811306465711973992:True:=trivial
theorem PySem.W.Fast.tw736133719286413096:True:=trivial
theorem PySem.W.Fast.tw1617410735925114760:True:=trivial
theorem PySem.W.Fast.tw2529164919178116169:True:=trivial
theorem PySem.W.Fast.tw10037389789517332777:True:=trivial
theorem PySem.W.Fast.tw5214478883007933897:True:=trivial
theorem PySem.W.Fast.tw16689874318904572361:True:=trivial
theorem PySem.W.Fast.tw7225404117187444169:True:=trivial
theorem PySem.W.Fast.tw9158140758811299305:True:=trivial
theorem PySem.W.Fast.tw5132821266448668201:True:=trivial
theorem PySem.W.Fast.tw305402980135864169:True:=trivial
theorem PySem.W.Fast.tw15200642876707317737:True:=trivial
theorem PySem.W.Fast.tw10780453547909127178:True:=trivial
theorem PySem.W.Fast.tw7442258440790293674:True:=trivial
theorem PySem.W.Fast.tw3313099822418551018:True:=trivial
theorem PySem.W.Fast.tw15024354083431025994:True:=trivial
theorem PySem.W.Fast.tw13093986382182943114:True:=trivial
theorem PySem.W.Fast.tw9736421514237859402:True:=trivial
theorem PySem.W.Fast.tw770114836595985162:True:=trivial
theorem PySem.W.Fast.tw10579810192751432618:True:=trivial
theorem PySem.W.Fast.tw8680274428041731018:True:=trivial
theorem PySem.W.Fast.tw9414238228475569227:True:=trivial
theorem PySem.W.Fast.tw4314538327499490539:True:=trivial
theorem PySem.W.Fast.tw493716087397228107:True:=trivial
theorem PySem.W.Fast.tw13427415111254166123:True:=trivial
theorem PySem.W.Fast.tw2245518842542189195:True:=trivial
theorem PySem.W.Fast.tw17688814840992115499:True:=trivial
theorem PySem.W.Fast.tw4294046360743449483:True:=trivial
theorem PySem.W.Fast.tw17886600527519772651:True:=trivial
theorem PySem.W.Fast.tw11099571646860496908:True:=trivial
theorem PySem.W.Fast.tw2951357329900093452:True:=trivial
theorem PySem.W.Fast.tw18193570501124543692:True:=trivial
theorem PySem.W.Fast.tw4159406140394028332:True:=trivial
theorem PySem.W.Fast.tw1067702190069165868:True:=trivial
theorem PySem.W.Fast.tw12521621705627435948:True:=trivial
theorem PySem.W.Fast.tw2694233254440126444:True:=trivial
theorem PySem.W.Fast.tw3974807840429913229:True:=trivial
theorem PySem.W.Fast.tw9238906002797011117:True:=trivial
theorem PySem.W.Fast.tw17272533593849646381:True:=trivial
theorem PySem.W.Fast.tw7176025347187189485:True:=trivial
theorem PySem.W.Fast.tw2710652242031422221:True:=trivial
theorem PySem.W.Fast.tw6684819230003408685:True:=trivial
theorem PySem.W.Fast.tw10598453454653757293:True:=trivial
theorem PySem.W.Fast.tw8237915452590377869:True:=trivial
theorem PySem.W.Fast.tw1828151817150653486:True:=trivial
theorem PySem.W.Fast.tw13196886758077054414:True:=trivial
theorem PySem.W.Fast.tw7687906953342652206:True:=trivial
theorem PySem.W.Fast.tw2770630923994309614:True:=trivial
theorem PySem.W.Fast.tw17534515508796082351:True:=trivial
theorem PySem.W.Fast.tw830453641736816879:True:=trivial
theorem PySem.W.Fast.tw6360637487835559471:True:=trivial
theorem PySem.W.Fast.tw1172351932559586159:True:=trivial
theorem PySem.W.Fast.tw17581416193182461903:True:=trivial
theorem PySem.W.Fast.tw4012524027783809072:True:=trivial
theorem PySem.W.Fast.tw346059705718108304:True:=trivial
theorem PySem.W.Fast.tw2514090218510945520:True:=trivial
theorem PySem.W.Fast.tw7610770706244129072:True:=trivial
theorem PySem.W.Fast.tw2381615876968424784:True:=trivial
theorem PySem.W.Fast.tw10255585443785960880:True:=trivial
theorem PySem.W.Fast.tw5237996125371382256:True:=trivial
theorem PySem.W.Fast.tw11251906880225032144:True:=trivial
theorem PySem.W.Fast.tw8833604676774517744:True:=trivial
theorem PySem.W.Fast.tw13071887678368983121:True:=trivial
theorem PySem.W.Fast.tw11066824288989004017:True:=trivial
theorem PySem.W.Fast.tw2443958916957473329:True:=trivial
theorem PySem.W.Fast.tw7006265747749737105:True:=trivial
theorem PySem.W.Fast.tw4815222987543783057:True:=trivial
theorem PySem.W.Fast.tw14408397606054347858:True:=trivial
theorem PySem.W.Fast.tw8491988368306089106:True:=trivial
theorem PySem.W.Fast.tw16838643088551246130:True:=trivial
theorem PySem.W.Fast.tw15982043078518162738:True:=trivial
theorem PySem.W.Fast.tw17890875427192860146:True:=trivial
theorem PySem.W.Fast.tw5506481309271866962:True:=trivial
theorem PySem.W.Fast.tw11066839536064146:True:=trivial
theorem PySem.W.Fast.tw13480130924659128146:True:=trivial
theorem PySem.W.Fast.tw13816583973828084626:True:=trivial
theorem PySem.W.Fast.tw5285677593100674291:True:=trivial
theorem PySem.W.Fast.tw8642009663073070323:True:=trivial
theorem PySem.W.Fast.tw9687359270723160339:True:=trivial
theorem PySem.W.Fast.tw3318039050461066579:True:=trivial
theorem PySem.W.Fast.tw10030015362653466003:True:=trivial
theorem PySem.W.Fast.tw2334074186237439411:True:=trivial
theorem PySem.W.Fast.tw16379141483254709779:True:=trivial
theorem PySem.W.Fast.tw7352898697715264435:True:=trivial
theorem PySem.W.Fast.tw1412190376401773908:True:=trivial
theorem PySem.W.Fast.tw5508313497244589780:True:=trivial
theorem PySem.W.Fast.tw8413114493284682484:True:=trivial
theorem PySem.W.Fast.tw11215851124513633301:True:=trivial
theorem PySem.W.Fast.tw10562173212285918261:True:=trivial
theorem PySem.W.Fast.tw7660094889907070261:True:=trivial
theorem PySem.W.Fast.tw2899282212388089461:True:=trivial
theorem PySem.W.Fast.tw340402544781274805:True:=trivial
theorem PySem.W.Fast.tw9120002894768962614:True:=trivial
theorem PySem.W.Fast.tw7786143791760970102:True:=trivial
theorem PySem.W.Fast.tw2593470147764299318:True:=trivial
theorem PySem.W.Fast.tw10565547730681037590:True:=trivial
theorem PySem.W.Fast.tw15809274165344100310:True:=trivial
theorem PySem.W.Fast.tw2594238659743004662:True:=trivial
theorem PySem.W.Fast.tw17356914048497086487:True:=trivial
theorem PySem.W.Fast.tw4018717458613362871:True:=trivial
theorem PySem.W.Fast.tw10838027675106336087:True:=trivial
theorem PySem.W.Fast.tw16180200762680199671:True:=trivial
theorem PySem.W.Fast.tw14694844389673533079:True:=trivial
theorem PySem.W.Fast.tw2644633160668951:True:=trivial
theorem PySem.W.Fast.tw17656114492349780887:True:=trivial
theorem PySem.W.Fast.tw7207263517839278232:True:=trivial
theorem PySem.W.Fast.tw4642473514805392664:True:=trivial
theorem PySem.W.Fast.tw8333019458886669688:True:=trivial
theorem PySem.W.Fast.tw7488175464675871512:True:=trivial
theorem PySem.W.Fast.tw10117889743142353113:True:=trivial
theorem PySem.W.Fast.tw12289919864541481305:True:=trivial
theorem PySem.W.Fast.tw4646652934999126457:True:=trivial
theorem PySem.W.Fast.tw17144070308424488377:True:=trivial
theorem PySem.W.Fast.tw6249709838821251545:True:=trivial
theorem PySem.W.Fast.tw4280559786553690585:True:=trivial
theorem PySem.W.Fast.tw13008195610285291065:True:=trivial
theorem PySem.W.Fast.tw14524888260092573337:True:=trivial
theorem PySem.W.Fast.tw5117852526709313465:True:=trivial
theorem PySem.W.Fast.tw11336995153442461689:True:=trivial
theorem PySem.W.Fast.tw13241508867737403706:True:=trivial
theorem PySem.W.Fast.tw11520954662152751418:True:=trivial
theorem PySem.W.Fast.tw14586831595547392346:True:=trivial
theorem PySem.W.Fast.tw2232946875741791674:True:=trivial
theorem PySem.W.Fast.tw3477736025239195386:True:=trivial
theorem PySem.W.Fast.tw9674483977172604698:True:=trivial
theorem PySem.W.Fast.tw14019076710664639386:True:=trivial
theorem PySem.W.Fast.tw12295971076403955642:True:=trivial
theorem PySem.W.Fast.tw9144167123471058075:True:=trivial
theorem PySem.W.Fast.tw3323163346334611611:True:=trivial
theorem PySem.W.Fast.tw15122622172816769211:True:=trivial
theorem PySem.W.Fast.tw969462183131802811:True:=trivial
theorem PySem.W.Fast.tw4904719118690499835:True:=trivial
theorem PySem.W.Fast.tw4537677242309786907:True:=trivial
theorem PySem.W.Fast.tw3766798893109192987:True:=trivial
theorem PySem.W.Fast.tw7198326601611150747:True:=trivial
theorem PySem.W.Fast.tw6065384857398762907:True:=trivial
theorem PySem.W.Fast.tw9004208522075400699:True:=trivial
theorem PySem.W.Fast.tw13491037339745284699:True:=trivial
theorem PySem.W.Fast.tw351050506755286651:True:=trivial
theorem PySem.W.Fast.tw2284032214352873147:True:=trivial
theorem PySem.W.Fast.tw17154854148399127451:True:=trivial
theorem PySem.W.Fast.tw376107881618384827:True:=trivial
theorem PySem.W.Fast.tw4856205165850260668:True:=trivial
theorem PySem.W.Fast.tw7435408270271693084:True:=trivial
theorem PySem.W.Fast.tw15666205610625782140:True:=trivial
theorem PySem.W.Fast.tw5472177708151585308:True:=trivial
theorem PySem.W.Fast.tw540706118086518428:True:=trivial
theorem PySem.W.Fast.tw13550746458063300508:True:=trivial
theorem PySem.W.Fast.tw5920775668768281661:True:=trivial
theorem PySem.W.Fast.tw10671714646424378493:True:=trivial
theorem PySem.W.Fast.tw315301518623776925:True:=trivial
theorem PySem.W.Fast.tw10955168402010329341:True:=trivial
theorem PySem.W.Fast.tw10054587506142818589:True:=trivial
theorem PySem.W.Fast.tw17801505102791175997:True:=trivial
theorem PySem.W.Fast.tw10560326201634714493:True:=trivial
theorem PySem.W.Fast.tw2455361276341228445:True:=trivial
theorem PySem.W.Fast.tw10268347679291972638:True:=trivial
theorem PySem.W.Fast.tw12227193351577708702:True:=trivial
theorem PySem.W.Fast.tw2139618422210024606:True:=trivial
theorem PySem.W.Fast.tw10028526250231992670:True:=trivial
theorem PySem.W.Fast.tw12493679357776574910:True:=trivial
theorem PySem.W.Fast.tw679024175797163518:True:=trivial
theorem PySem.W.Fast.tw5848717403272889278:True:=trivial
theorem PySem.W.Fast.tw7292966366968390590:True:=trivial
theorem PySem.W.Fast.tw660120918413454334:True:=trivial
theorem PySem.W.Fast.tw1524405600905852926:True:=trivial
theorem PySem.W.Fast.tw1549573499389510943:True:=trivial
theorem PySem.W.Fast.tw616290879080806943:True:=trivial
theorem PySem.W.Fast.tw12201779538865567391:True:=trivial
theorem PySem.W.Fast.tw17694815551168882687:True:=trivial
open PySem PySem.W PyProof.Rows
set_option maxRecDepth 100000 in
set_option maxHeartbeats 0 in
theorem PySem.Challenge.cw_tieword_k01_webs_holds : PySem.Challenge.rw_tieword_k01_webs.Holds := by
  w_on; refine PySem.W.holds_law (by decide +kernel) fun said=>?_; o_head (PySem.W.kHook My.KK [3,30,31,43,44,55,56,67,68,80,92,104,116,128,140,152,164,170,171,177,178,184,185,191,192,198,199,205,206,212,213,224,225,231,232,248,249,259,260,266,267,273,274,278,279,285,286,292,293,299,300,306,307,313,314,320,321,325,326,332,333,339,340,346,347] (fun _=>by kernel_rfl)); (case hw=>w_witness2)
  k_fill
  refine L2.walk_ofK (l:=PySem.Challenge.rw_tieword_k01_webs) (n:=63) (k:=6) (x := "_law_script") (CX:=L2.CX0) (sp:=My.spLaw) rfl (by decide) rfl ⟨rfl,by decide,by decide⟩ (fun w h Y=>PySem.W.kIn_of Y) ?F (fun K H a ns hl _ hS=>⟨a,ns,rfl,hS,hl,fun _=>rfl⟩) fun _ _ _ _ z=>z
  case F=>
    intro w mg fa h KX G hmg
    refine' My.all_mk KX G hmg ..
    all_goals (try k_is)
    all_goals kernel_rfl
